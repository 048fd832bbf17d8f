"""The texts of plain expressions."""

from lookdone.errors import BadText
from lookdone.expressions import AGGREGATES, OPERATIONS, rows_of
from lookdone.kinds import is_name
from lookdone.readers import Reader

DEEPEST = 30

# How many expressions stand in the parentheses behind each word.
ARGUMENTS = {"if": 3, "at": 2, "count": 1, "sum": 2, "most": 3, "first": 2}

# The X of an aggregate is not shown, but it is nested this deep.
DEPTH_OF_ROWS = 2


def show_expression(expression):
    """The text of a plain expression."""
    shown = []
    # A list of what is still to be shown instead of calls: the expression may
    # be nested deeper than calls can go.
    todo = [expression]
    while todo:
        piece = todo.pop()
        if isinstance(piece, str):
            shown.append(piece)
        else:
            todo.extend(pieces_of(piece)[::-1])
    return "".join(shown)


def pieces_of(expression):
    """The pieces of the expression's text, in order: strings, and expressions in it."""
    word = expression[0]
    if word == "key":
        return ["key"]
    if word == "int":
        return [str(expression[1])]
    if word == "var":
        return [expression[1]]
    if word == "cell":
        return [expression[1], "[", expression[2], "].", expression[3]]
    if word in OPERATIONS:
        return ["(", expression[1], f" {word} ", expression[2], ")"]
    if word in AGGREGATES:
        return [word, "(", *with_commas([expression[1], *expression[4:]]), ")"]
    return [word, "(", *with_commas(expression[1:]), ")"]


def with_commas(pieces):
    """The pieces with commas between them."""
    found = [pieces[0]]
    for piece in pieces[1:]:
        found.append(", ")
        found.append(piece)
    return found


def read_expression(thing):
    """The expression of which the thing, any value of Python, is the text, or BadText(0)."""
    if not isinstance(thing, str):
        raise BadText(0)
    reader = Reader(thing)
    expression = take_expression(reader, DEEPEST)
    reader.take_end()
    return expression


def take_expression(reader, room):
    """Read an expression that is nested at most as deep as there is room."""
    if room == 0:
        raise BadText(0)
    if reader.is_next("("):
        return take_operation(reader, room)
    if reader.is_any_next("-0123456789"):
        return ("int", reader.take_value())
    word = reader.take_word()
    if reader.is_next("("):
        return take_call(reader, word, room)
    if word == "key":
        return ("key",)
    if not is_name(word):
        raise BadText(0)
    if reader.is_next("["):
        return take_cell(reader, word, room)
    return ("var", word)


def take_operation(reader, room):
    """Read an operation with its parentheses."""
    reader.take("(")
    one = take_expression(reader, room - 1)
    reader.take(" ")
    word = reader.take_any(OPERATIONS)
    reader.take(" ")
    other = take_expression(reader, room - 1)
    reader.take(")")
    return (word, one, other)


def take_cell(reader, table, room):
    """Read the key and the column of a cell, behind the name of its table."""
    reader.take("[")
    key = take_expression(reader, room - 1)
    reader.take("].")
    return ("cell", table, key, reader.take_name())


def take_call(reader, word, room):
    """Read what stands in parentheses behind the word."""
    if word not in ARGUMENTS:
        raise BadText(0)
    reader.take("(")
    if word in AGGREGATES:
        beginning = take_beginning(reader, word, room)
    else:
        beginning = (word,)
    arguments = take_arguments(reader, ARGUMENTS[word], room)
    reader.take(")")
    return (*beginning, *arguments)


def take_beginning(reader, word, room):
    """Read the table of an aggregate, and add what a text does not show."""
    if room - 1 < DEPTH_OF_ROWS:
        raise BadText(0)
    table = reader.take_name()
    reader.take(", ")
    return (word, table, (), rows_of(table))


def take_arguments(reader, many, room):
    """Read so many expressions, with commas between them."""
    found = [take_expression(reader, room - 1)]
    while len(found) < many:
        reader.take(", ")
        found.append(take_expression(reader, room - 1))
    return found
