"""Nodes: the parts of an expression that stands somewhere in a log."""

from lookdone.expressions import AGGREGATES, ALL_PARTS, folded
from lookdone.kinds import LIMIT

# Where the part of an aggregate stands behind the expressions of extra.
ROWS = 0
CONDITION = 1
COUNTED = 2


class Node:
    """A part of an expression, tied to what it reads, with what was found out of it.

    The source of a let is the statement; that of a cell or an aggregate is the
    last writer of its column, or None. The spans and the answers are kept by the
    free key, or under None where there is no free key in the node.
    """

    def __init__(self, word, parts, many_extra, source):
        self.word = word
        self.parts = parts
        self.many_extra = many_extra
        self.source = source
        self.is_keyed = depends_on_key(word, parts, many_extra)
        # The span, where it is the same wherever the node stands.
        self.fixed = fixed_span(word)
        self.spans = {}
        self.answers = {}

    def part_of_rows(self, place):
        """The X, the P or the V of an aggregate."""
        return self.parts[self.many_extra + place]


def depends_on_key(word, parts, many_extra):
    """Whether a node with these parts has a free key."""
    if word == "key":
        return True
    if word == "at":
        return parts[0].is_keyed
    if word not in AGGREGATES:
        return any([part.is_keyed for part in parts])
    around = parts[:many_extra]
    if word in ("most", "first"):
        around = [*around, parts[-1]]
    return any([part.is_keyed for part in around])


def fixed_span(word):
    """The span of all nodes with this word, or None."""
    if word == "count":
        return (0, LIMIT)
    if word in AGGREGATES:
        return (-LIMIT, LIMIT)
    return None


def planted(expression, heads, lets):
    """The node of an expression.

    heads are the last writers of the columns below it, lets the statements of its
    lets, by what stands in the expression: a variable, or a position.
    """

    def made(part, parts):
        word = part[0]
        if word == "int":
            node = Node(word, parts, 0, None)
            node.fixed = (part[1], part[1])
            return node
        if word in ("var", "let"):
            return Node(word, parts, 0, lets[part[1]])
        if word == "cell":
            return Node(word, parts, 0, heads.get((part[1], part[3])))
        if word in AGGREGATES:
            return Node(word, parts, len(part[2]), heads.get((part[1], "in")))
        return Node(word, parts, 0, None)

    return folded(expression, ALL_PARTS, made)
