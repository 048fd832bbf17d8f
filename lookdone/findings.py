"""Findings: what is said of a log, and whether it is true."""

from lookdone.books import book_of
from lookdone.compacting import compact
from lookdone.entrychecks import are_slot_entries, do_hold
from lookdone.errors import TooLarge
from lookdone.evaluation import needed, value_of
from lookdone.expressions import is_expression, is_plain
from lookdone.kinds import is_integer, word_of
from lookdone.leading import cut_look, led_back
from lookdone.logs import are_moments, is_log
from lookdone.nodespans import span_at
from lookdone.slots import may_stand
from lookdone.slotspans import span_of
from lookdone.tracechecks import trace_holds


def finding_holds(thing):
    """Whether the thing, any value of Python, is a finding that holds."""
    word = word_of(thing)
    if word not in LENGTHS or len(thing) != LENGTHS[word] or not is_log(thing[1]):
        return False
    action = CLAIMS[word]
    _, log, *parts = thing
    if word == "compact":
        return action(log, *parts)
    expression, position, *rest = parts
    if not is_expression(expression) or not may_stand(log, expression, position):
        return False
    return action(log, expression, position, *rest)


def is_same(thing, other):
    """Whether the thing, any value of Python, is the other one, of integers, strings and tuples.

    Unlike for ==, True is not 1. Both may be nested deeper than calls can go.
    """
    todo = [(thing, other)]
    while todo:
        one, wanted = todo.pop()
        if isinstance(wanted, tuple):
            if not isinstance(one, tuple) or len(one) != len(wanted):
                return False
            todo.extend(list(zip(one, wanted)))
        elif isinstance(one, bool) or one != wanted:
            return False
    return True


def is_place(thing, end):
    """Whether the thing, any value of Python, is an integer from 0 to the end."""
    return is_integer(thing) and 0 <= thing <= end


def value_claimed(log, expression, position, value):
    """Whether the expression has this value."""
    return is_same(value, value_of(log, expression, position))


def span_claimed(log, expression, position, low, high):
    """Whether the expression has this span."""
    return is_same((low, high), span_of(log, expression, position))


def needs_claimed(log, expression, position, slots):
    """Whether the expression needs these slots."""
    return is_same(slots, needed(log, expression, position))


def trace_claimed(log, expression, position, thing):
    """Whether the expression is plain, and the thing a trace of it that holds."""
    return is_plain(expression) and trace_holds(log, expression, position, thing)


def led_claimed(log, expression, position, cut, other):
    """Whether the other expression is this one, led back to the cut."""
    if not is_place(cut, position):
        return False
    try:
        return is_same(other, led_back(log, expression, position, cut))
    except TooLarge:
        return False


def cut_claimed(log, expression, position, cut, value, slots):
    """Whether the expression, led back to the cut, has this value and needs these slots there."""
    return is_place(cut, position) and is_same((value, slots), cut_look(log, expression, position, cut))


def compact_claimed(log, moments, entries, other):
    """Whether the other log is this one, compacted for the moments with the entries as evaluated slots."""
    if not are_moments(moments, log[0]) or not are_slot_entries(log, entries):
        return False
    book = book_of(log, entries)
    if any([is_single(book.slot_named(entry[0])) for entry in entries]) or not do_hold(book, entries):
        return False
    return is_same(other, compact(log, moments, entries=entries))


def is_single(slot):
    """Whether the span of the slot is a single value."""
    low, high = span_at(slot.root, slot.key)
    return low == high


CLAIMS = {
    "value": value_claimed,
    "span": span_claimed,
    "needs": needs_claimed,
    "trace": trace_claimed,
    "led": led_claimed,
    "cut": cut_claimed,
    "compact": compact_claimed,
}

# How long the finding of each form is.
LENGTHS = {"value": 5, "span": 6, "needs": 5, "trace": 5, "led": 6, "cut": 7, "compact": 5}
