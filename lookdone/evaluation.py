"""The values of expressions that stand in a log, and the slots that they need."""

from lookdone.books import book_of
from lookdone.workings import Look, evaluated_by_one


def value_of(log, expression, position):
    """The value of a closed expression that stands at the position."""
    return evaluated(log, expression, position)[0]


def needed(log, expression, position):
    """The slots that a closed expression at the position needs, ascending."""
    found = evaluated(log, expression, position)[1]
    return tuple(sorted([slot for slot, value in found]))


def evaluated(log, expression, position, *, entries=()):
    """The value, and the slots, with their values, that are evaluated beside the entries."""
    root = book_of(log, entries).node_at(expression, position)
    value, found = evaluated_by_one(Look(root))
    return (value, tuple(found))
