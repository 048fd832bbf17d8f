"""What counts as an integer, as a value and as a name."""

LIMIT = 10 ** 18

LETTERS = "abcdefghijklmnopqrstuvwxyz"

LONGEST_NAME = 8

# The words of the language are no names.
WORDS = ("key", "if", "at", "count", "sum", "most", "first", "let", "need", "put", "each", "tell")


def is_integer(thing):
    """Whether the thing is an integer: a bool is none."""
    return isinstance(thing, int) and not isinstance(thing, bool)


def is_value(thing):
    """Whether the thing is an integer from -LIMIT to LIMIT."""
    return is_integer(thing) and -LIMIT <= thing <= LIMIT


def is_name(thing):
    """Whether the thing may be the name of a table, a column or a variable."""
    if not isinstance(thing, str) or not 1 <= len(thing) <= LONGEST_NAME:
        return False
    return thing not in WORDS and all([sign in LETTERS for sign in thing])


def word_of(thing):
    """The string with which the thing begins, if it is a tuple that does; otherwise None."""
    if isinstance(thing, tuple) and thing and isinstance(thing[0], str):
        return thing[0]
    return None
