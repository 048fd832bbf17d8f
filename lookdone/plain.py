"""The plain store: it runs each transaction when it is committed."""

from lookdone.errors import NotKept, Refused
from lookdone.kinds import is_integer
from lookdone.plainvalues import plain_value, plain_values
from lookdone.tables import Tables


class PlainStore:
    """A store that keeps the tables of all its moments."""

    def __init__(self):
        self.states = [Tables()]

    @property
    def moment(self):
        """The number of transactions committed so far."""
        return len(self.states) - 1

    def commit(self, transaction):
        """Run the transaction, and tell its told values; Refused changes nothing."""
        tables = self.states[-1].branch()
        variables = {}
        told = []
        for number, statement in enumerate(transaction):
            value = carried_out(statement, tables, variables)
            if statement[0] == "need" and value == 0:
                raise Refused(number)
            if statement[0] == "tell":
                told.append(value)
        self.states.append(tables)
        return tuple(told)

    def run(self, *statements):
        """Commit the transaction of these statements."""
        return self.commit(statements)

    def value(self, expression, *, moment=None):
        """The value of a closed plain expression at the moment, or at the present one."""
        if moment is None:
            return plain_value(expression, self.states[-1], {})
        if not is_integer(moment) or not 0 <= moment < len(self.states):
            raise NotKept(moment)
        return plain_value(expression, self.states[moment], {})


def carried_out(statement, tables, variables):
    """Do what the statement does to tables and variables; the value of a need or a tell."""
    word = statement[0]
    if word == "let":
        variables[statement[1]] = plain_value(statement[2], tables, variables)
    elif word == "put":
        put(statement, tables, variables)
    elif word == "each":
        put_each(statement, tables, variables)
    else:
        return plain_value(statement[1], tables, variables)
    return None


def put(statement, tables, variables):
    """Write the cell of a put."""
    _, table, place, column, written = statement
    key = plain_value(place, tables, variables)
    value = plain_value(written, tables, variables)
    tables.write(table, key, column, value)


def put_each(statement, tables, variables):
    """Write the cells of an each; all is worked out before any write."""
    _, table, condition, column, written = statement
    keys = tables.present(table)
    wanted = plain_values(condition, tables, variables, keys)
    values = plain_values(written, tables, variables, keys)
    for key, is_wanted, value in zip(keys, wanted, values):
        if is_wanted != 0:
            tables.write(table, key, column, value)
