"""The spans of expressions that stand in a log."""

from lookdone.books import book_of
from lookdone.nodespans import span_at


def span_of(log, expression, position):
    """The span of a closed expression that stands at the position."""
    return span_at(book_of(log).node_at(expression, position), None)


def slot_span(log, slot):
    """The span of the slot's expression, where that stands."""
    found = book_of(log).slot_named(slot)
    return span_at(found.root, found.key)
