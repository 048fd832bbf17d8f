"""Statements and transactions: their forms, and their variables."""

from lookdone.expressions import has_free_key, is_expression, is_plain, is_simple, variables_of
from lookdone.kinds import is_name, word_of

# What stands behind the word of each form. A "keyless" expression has no free
# key; a "row" is a simple one that may have some, for the key of the row.
FIELDS = {
    "let": ("name", "keyless"),
    "need": ("keyless",),
    "put": ("name", "keyless", "name", "keyless"),
    "each": ("name", "row", "name", "row"),
    "tell": ("keyless",),
}


def is_transaction(thing):
    """Whether the thing, any value of Python, is a transaction."""
    if not isinstance(thing, tuple):
        return False
    known = {}
    for statement in thing:
        if not is_statement(statement) or not may_follow(statement, known):
            return False
        known.update(names_let(statement))
    return True


def is_statement(thing):
    """Whether the thing, any value of Python, is a statement."""
    kinds = FIELDS.get(word_of(thing))
    if kinds is None or len(thing) != 1 + len(kinds):
        return False
    return all([fits(kind, part) for kind, part in zip(kinds, thing[1:])])


def fits(kind, part):
    """Whether the part is of its kind."""
    if kind == "name":
        return is_name(part)
    if not is_expression(part) or not is_plain(part):
        return False
    if kind == "row":
        return is_simple(part)
    return not has_free_key(part)


def may_follow(statement, known):
    """Whether the statement may stand where just the variables that are known are let."""
    if any([name in known for name in names_let(statement)]):
        return False
    return all([name in known for name in names_used(statement)])


def names_let(statement):
    """The variable that the statement lets, if it is a let: a dict of True."""
    if statement[0] == "let":
        return {statement[1]: True}
    return {}


def names_used(statement):
    """The variables in the expressions of the statement."""
    return [name for part in expressions_in(statement) for name in variables_of(part)]


def expressions_in(statement):
    """The expressions of the statement, in order."""
    kinds = FIELDS[statement[0]]
    return [part for kind, part in zip(kinds, statement[1:]) if kind != "name"]
