"""The slots of the statements of a log, and their expressions."""

from lookdone.expressions import all_parts, is_closed, keyed, rows_of, with_variables
from lookdone.kinds import is_integer, is_value
from lookdone.logs import lets_at, statement_at

# The words of the slots of each statement. Only those of an each have a key.
SLOTS = {
    "let": ("let",),
    "need": ("need",),
    "put": ("key", "value"),
    "each": ("guard", "value"),
    "tell": ("tell",),
}


def is_slot(log, thing):
    """Whether the thing, any value of Python, is a slot of the log."""
    return has_slot_form(thing) and is_slot_of(statement_at(log, thing[0]), thing)


def has_slot_form(thing):
    """Whether the thing, any value of Python, has a position and a word like a slot."""
    if not isinstance(thing, tuple) or len(thing) not in (2, 3):
        return False
    return is_integer(thing[0]) and isinstance(thing[1], str)


def is_slot_of(statement, thing):
    """Whether the statement, or None, at the position in such a thing has this slot."""
    if statement is None or thing[1] not in SLOTS[statement[0]]:
        return False
    if statement[0] == "each":
        return len(thing) == 3 and is_value(thing[2])
    return len(thing) == 2


def slot_expression(statement, word):
    """The expression of the statement's slots of this word, with its variables and its free keys."""
    if word == "guard":
        return ("if", rows_of(statement[1]), statement[2], ("int", 0))
    if word == "key":
        return statement[2]
    return statement[-1]


def expression_of(log, slot):
    """The expression of the slot, with ("let", q) in place of its variables."""
    expression = with_lets(log, slot_expression(statement_at(log, slot[0]), slot[1]), slot[0])
    if len(slot) == 3:
        return keyed(expression, ("int", slot[2]))
    return expression


def with_lets(log, expression, position):
    """The expression of the position's statement with ("let", q) in place of its variables."""
    lets = lets_at(log, position)
    return with_variables(expression, {name: ("let", lets[name]) for name in lets})


def may_stand(log, expression, position):
    """Whether the expression is closed and may stand at the position."""
    if not is_closed(expression) or not is_integer(position) or not 0 <= position <= log[0][-1]:
        return False
    lets = {place: True for place, statement in log[1] if statement[0] == "let" and place < position}
    return all([part[1] in lets for part in all_parts(expression) if part[0] == "let"])


def column_of(statement):
    """The (table, column) that the statement writes, or None."""
    if statement[0] in ("put", "each"):
        return (statement[1], statement[3])
    return None


def writers(log, table, column, position):
    """The positions of the puts and eaches to the column below the position, ascending."""
    return tuple([
        place for place, statement in log[1]
        if place < position and column_of(statement) == (table, column)
    ])
