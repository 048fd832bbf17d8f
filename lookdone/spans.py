"""Spans: tuples (low, high) of values, low not greater than high."""

from lookdone.kinds import LIMIT


def clip(number):
    """The value that is nearest to the integer."""
    return max(-LIMIT, min(LIMIT, number))


def hull(one, other):
    """The least span that contains both."""
    return (min(one[0], other[0]), max(one[1], other[1]))


def plus(one, other):
    """The span of a sum."""
    return (clip(one[0] + other[0]), clip(one[1] + other[1]))


def minus(one, other):
    """The span of a difference."""
    return (clip(one[0] - other[1]), clip(one[1] - other[0]))


def times(one, other):
    """The span of a product."""
    products = [factor * by for factor in one for by in other]
    return (clip(min(products)), clip(max(products)))


def less(one, other):
    """The span of the question whether a value of one is less than one of the other."""
    if one[1] < other[0]:
        return (1, 1)
    if one[0] >= other[1]:
        return (0, 0)
    return (0, 1)


def same(one, other):
    """The span of the question whether a value of one is equal to one of the other."""
    if one[1] < other[0] or other[1] < one[0]:
        return (0, 0)
    # The two have a value in common, so two single values are the same one.
    if one[0] == one[1] and other[0] == other[1]:
        return (1, 1)
    return (0, 1)
