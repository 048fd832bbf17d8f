"""Logs: the positions of the moments, and the statements at their positions."""

from lookdone.kinds import is_integer
from lookdone.statements import is_transaction

LAST_POSITION = 10000


def log_of(*transactions):
    """The log of these transactions, whether or not they would be refused."""
    marks = [0]
    statements = []
    for transaction in transactions:
        statements.extend(transaction)
        marks.append(len(statements))
    return (tuple(marks), tuple(enumerate(statements)))


def is_log(thing):
    """Whether the thing, any value of Python, is a valid log."""
    if not isinstance(thing, tuple) or len(thing) != 2:
        return False
    marks, entries = thing
    if not are_marks(marks) or not are_entries(entries, marks[-1]):
        return False
    parts = [tuple([entry[1] for entry in part]) for part in parted(marks, entries)]
    return all([is_transaction(part) for part in parts])


def are_marks(thing):
    """Whether the thing may be the marks of a log."""
    if not isinstance(thing, tuple) or not all([is_integer(mark) for mark in thing]):
        return False
    if not thing or thing[0] != 0 or thing[-1] > LAST_POSITION:
        return False
    return all([one <= other for one, other in zip(thing, thing[1:])])


def are_moments(thing, marks):
    """Whether the thing is an ascending tuple of moments of a log with these marks."""
    if not isinstance(thing, tuple) or not all([is_integer(moment) for moment in thing]):
        return False
    if not all([0 <= moment < len(marks) for moment in thing]):
        return False
    return all([one < other for one, other in zip(thing, thing[1:])])


def are_entries(thing, end):
    """Whether the thing, but for its statements, may be the entries of a log up to this end."""
    if not isinstance(thing, tuple):
        return False
    least = 0
    for entry in thing:
        if not isinstance(entry, tuple) or len(entry) != 2 or not is_integer(entry[0]):
            return False
        if not least <= entry[0] < end:
            return False
        least = entry[0] + 1
    return True


def parted(marks, entries):
    """For each transaction the entries that belong to it."""
    found = []
    end = 0
    for mark in marks[1:]:
        start = end
        while end < len(entries) and entries[end][0] < mark:
            end += 1
        found.append(entries[start:end])
    return found


def statements_of(log):
    """The statements by their positions."""
    return {position: statement for position, statement in log[1]}


def statement_at(log, position):
    """The statement at the position, or None."""
    for place, statement in log[1]:
        if place == position:
            return statement
    return None


def let_of(log, position, variable):
    """The position of the let to which the variable refers at this position, or None."""
    return lets_at(log, position).get(variable)


def start_of(marks, position):
    """Where the transaction of the position starts."""
    return max([mark for mark in marks if mark <= position], default=0)


def lets_at(log, position):
    """The positions of the lets below the position in its transaction, by their variables."""
    marks, entries = log
    start = start_of(marks, position)
    return {
        statement[1]: place for place, statement in entries
        if start <= place < position and statement[0] == "let"
    }
