"""The spans of nodes, and of the cells just behind their writers.

What is asked is a thing with a key: a node with the key that is free in it, or a
put or an each, placed, for the cell that has this key behind it; None is the
writer of a cell that nothing has written. A chain of things that depend on each
other may be longer than calls can go deep, so they are kept in a list.
"""

from lookdone.kinds import LIMIT
from lookdone.spans import hull, less, minus, plus, same, times

UNWRITTEN = (0, 0)
UNKNOWN = (-LIMIT, LIMIT)

NO = (0, 0)


def decides_yes(span):
    """Whether no value in the span is 0."""
    return span[0] > 0 or span[1] < 0


def span_told(thing, key):
    """The span of the thing if it was found out before, otherwise None."""
    if thing is None:
        return UNWRITTEN
    if thing.fixed is not None:
        return thing.fixed
    return thing.spans.get(key if thing.is_keyed else None)


def span_at(thing, key):
    """The span of the thing."""
    found = span_told(thing, key)
    if found is None:
        spanning = Spanning()
        spanning.todo.append((thing, key))
        spanning.go_on()
        found = span_told(thing, key)
    return found


class Spanning:
    """What is still to be found out: the last one first, the others hang on it."""

    def __init__(self):
        self.todo = []

    def span(self, thing, key):
        """The span of the thing; None if it comes first to find it out."""
        found = span_told(thing, key)
        if found is None:
            self.todo.append((thing, key))
        return found

    def go_on(self):
        """Find out all that is still to be found out."""
        while self.todo:
            thing, key = self.todo[-1]
            action = SPANNED[thing.word]
            found = action(self, thing, key)
            if found is not None:
                self.todo.pop()
                thing.spans[key if thing.is_keyed else None] = found

    def chosen(self, condition, one, other):
        """The span of an if with this span as its condition, between two (thing, key)."""
        if decides_yes(condition):
            return self.span(one[0], one[1])
        if condition == NO:
            return self.span(other[0], other[1])
        first = self.span(one[0], one[1])
        second = self.span(other[0], other[1])
        if first is None or second is None:
            return None
        return hull(first, second)


def span_of_key(spanning, node, key):
    """The span of ("key",)."""
    return (key, key)


def span_of_let(spanning, node, key):
    """The span of a variable or of ("let", q)."""
    return spanning.span(node.source.node_of("let"), None)


def span_of_operation(spanning, node, key):
    """The span of an operation with two parts."""
    one = spanning.span(node.parts[0], key)
    other = spanning.span(node.parts[1], key)
    if one is None or other is None:
        return None
    return combined(node.word, one, other)


def combined(word, one, other):
    """The span of an operation with two spans."""
    if word == "+":
        return plus(one, other)
    if word == "-":
        return minus(one, other)
    if word == "*":
        return times(one, other)
    if word == "<":
        return less(one, other)
    return same(one, other)


def span_of_if(spanning, node, key):
    """The span of an if."""
    condition = spanning.span(node.parts[0], key)
    if condition is None:
        return None
    return spanning.chosen(condition, (node.parts[1], key), (node.parts[2], key))


def span_of_at(spanning, node, key):
    """The span of an at."""
    place = spanning.span(node.parts[0], key)
    if place is None:
        return None
    if place[0] != place[1]:
        return UNKNOWN
    return spanning.span(node.parts[1], place[0])


def span_of_cell(spanning, node, key):
    """The span of a cell where its node stands."""
    place = spanning.span(node.parts[0], key)
    if place is None:
        return None
    if place[0] != place[1]:
        return UNKNOWN
    return spanning.span(node.source, place[0])


def span_of_put(spanning, placed, key):
    """The span of the cell with this key behind a put."""
    place = spanning.span(placed.node_of("key"), None)
    if place is None:
        return None
    return spanning.chosen(same((key, key), place), (placed.node_of("value"), None), (placed.before, key))


def span_of_each(spanning, placed, key):
    """The span of the cell with this key behind an each."""
    guard = spanning.span(placed.node_of("guard"), key)
    if guard is None:
        return None
    return spanning.chosen(guard, (placed.node_of("value"), key), (placed.before, key))


SPANNED = {
    "key": span_of_key,
    "var": span_of_let,
    "let": span_of_let,
    "cell": span_of_cell,
    "+": span_of_operation,
    "-": span_of_operation,
    "*": span_of_operation,
    "<": span_of_operation,
    "=": span_of_operation,
    "if": span_of_if,
    "at": span_of_at,
    "put": span_of_put,
    "each": span_of_each,
}
