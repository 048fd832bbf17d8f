"""Expressions that are led back through a log, step by step."""

from lookdone.books import book_of
from lookdone.cuts import evaluated_at_cut
from lookdone.errors import TooLarge
from lookdone.expressions import AGGREGATES, ALL_PARTS, all_parts, columns_of, folded, one_deeper, with_contained_of
from lookdone.logs import statements_of
from lookdone.slots import column_of, slot_expression, with_lets

MOST_PARTS = 2000
DEEPEST = 100

KEY = ("key",)


def led(log, expression, position):
    """The expression led back from the position to the one before, or TooLarge."""
    return led_back(log, expression, position, position - 1)


def led_back(log, expression, position, cut):
    """The expression led back from the position to the cut, or TooLarge."""
    way = Way(log, expression)
    for place in reversed(range(cut, position)):
        way.step_to(place)
    return way.expression


def steps_back(log, expression, position):
    """The expression led back by one step, by two, and so on, down to position 0, or TooLarge."""
    way = Way(log, expression)
    for place in reversed(range(position)):
        way.step_to(place)
        yield way.expression


def cut_look(log, expression, position, cut):
    """The value of a closed expression led back to the cut, and the slots that it needs there."""
    value, found = evaluated_at_cut(book_of(log).node_at(expression, position), cut)
    return (value, tuple(sorted([entry[0] for entry in found])))


class Way:
    """An expression on its way back through a log."""

    def __init__(self, log, expression):
        self.through = log
        self.statements = statements_of(log)
        self.expression = expression
        self.reads = read_by(expression)
        self.is_small = False

    def step_to(self, place):
        """Lead the expression back to this position from the next one, or TooLarge."""
        statement = self.statements.get(place)
        # Most statements do not matter to an expression, which may have many parts.
        is_changed = statement is not None and self.is_changed_by(place, statement)
        if is_changed:
            self.expression = led_over(self.through, self.expression, place, statement)
        if is_changed or not self.is_small:
            if is_too_large(self.expression):
                raise TooLarge()
            self.is_small = True
        if is_changed:
            self.reads = read_by(self.expression)

    def is_changed_by(self, place, statement):
        """Whether a step over the statement at this place perhaps changes the expression."""
        if statement[0] == "let":
            return place in self.reads
        return column_of(statement) in self.reads


def read_by(expression):
    """The columns and the positions of lets that the expression reads: a dict of True."""
    found = {column: True for column in columns_of(expression)}
    for part in all_parts(expression):
        if part[0] == "let":
            found[part[1]] = True
    return found


def is_too_large(expression):
    """Whether the expression has too many parts, or is nested too deep."""
    many = 0
    depth = 0
    level = [expression]
    while level:
        many += len(level)
        depth += 1
        if many > MOST_PARTS or depth > DEEPEST:
            return True
        level = one_deeper(level)
    return False


def led_over(log, expression, position, statement):
    """The expression led back over a let, a put or an each at the position."""
    if statement[0] == "let":
        return led_over_let(expression, position, slot_led_to(log, position, statement, "let"))
    return led_over_writer(log, expression, position, statement)


def slot_led_to(log, position, statement, word):
    """The expression of the statement's slots of this word, with its free keys."""
    return with_lets(log, slot_expression(statement, word), position)


def led_over_let(expression, position, other):
    """The expression with the other one in place of the let at the position."""

    def made(part, parts):
        if part == ("let", position):
            return other
        return with_contained_of(part, ALL_PARTS, parts) if parts else part

    return folded(expression, ALL_PARTS, made)


def led_over_writer(log, expression, position, statement):
    """The expression led back over a put or an each."""
    table, column = column_of(statement)
    written = cell_behind(log, position, statement)
    added = keys_added(log, position, statement)

    def made(part, parts):
        if part[0] == "cell" and part[1] == table and part[3] == column:
            return ("at", parts[0], written)
        changed = with_contained_of(part, ALL_PARTS, parts) if parts else part
        if part[0] in AGGREGATES and part[1] == table:
            return (*changed[:2], (*changed[2], *added), *changed[3:])
        return changed

    return folded(expression, ALL_PARTS, made)


def cell_behind(log, position, statement):
    """What a cell of the column has behind the put or each, with its key left free."""
    table, column = column_of(statement)
    if statement[0] == "put":
        condition = ("=", KEY, slot_led_to(log, position, statement, "key"))
    else:
        condition = slot_led_to(log, position, statement, "guard")
    value = slot_led_to(log, position, statement, "value")
    return ("if", condition, value, ("cell", table, KEY, column))


def keys_added(log, position, statement):
    """The expressions of the keys that an aggregate over the table runs over because of the statement."""
    if statement[0] == "put" and statement[3] == "in":
        return (slot_led_to(log, position, statement, "key"),)
    return ()
