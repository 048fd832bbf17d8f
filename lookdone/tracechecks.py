"""The checker of traces."""

from lookdone.books import book_of
from lookdone.entrychecks import are_slot_entries, do_hold, value_alone
from lookdone.kinds import is_value


def trace_holds(log, expression, position, thing):
    """Whether the thing, any value of Python, is a trace of the expression at the position that holds."""
    if not isinstance(thing, tuple) or len(thing) != 2:
        return False
    value, entries = thing
    if not is_value(value) or not are_slot_entries(log, entries):
        return False
    book = book_of(log, entries)
    return do_hold(book, entries) and value_alone(book.node_at(expression, position), None) == value
