"""The texts of statements and of transactions."""

from lookdone.errors import BadText
from lookdone.expressiontexts import DEEPEST, show_expression, take_expression
from lookdone.readers import Reader
from lookdone.statements import is_statement, may_follow, names_let


def show_transaction(transaction):
    """The text of the transaction."""
    return "\n".join([show_statement(statement) for statement in transaction])


def show_statement(statement):
    """The line of the statement."""
    word = statement[0]
    texts = [part if isinstance(part, str) else show_expression(part) for part in statement[1:]]
    if word == "let":
        return f"let {texts[0]} = {texts[1]}"
    if word == "put":
        return f"put {texts[0]}[{texts[1]}].{texts[2]} = {texts[3]}"
    if word == "each":
        return f"each {texts[0]} if {texts[1]} put {texts[2]} = {texts[3]}"
    return f"{word} {texts[0]}"


def read_transaction(thing):
    """The transaction of which the thing, any value of Python, is the text, or BadText."""
    if not isinstance(thing, str):
        raise BadText(0)
    known = {}
    found = []
    for number, line in enumerate(lines_of(thing)):
        try:
            statement = read_statement(line)
        except BadText:
            raise BadText(number) from None
        if not may_follow(statement, known):
            raise BadText(number)
        known.update(names_let(statement))
        found.append(statement)
    return tuple(found)


def lines_of(text):
    """The lines of the text; the empty text has none."""
    if text == "":
        return []
    return text.split("\n")


def read_statement(line):
    """The statement of which the line is the text, or BadText(0)."""
    reader = Reader(line)
    statement = take_statement(reader)
    reader.take_end()
    if not is_statement(statement):
        raise BadText(0)
    return statement


def take_statement(reader):
    """Read what has the form of a statement; keys and aggregates may stand anywhere."""
    word = reader.take_any(("let", "need", "put", "each", "tell"))
    reader.take(" ")
    if word == "let":
        return take_let(reader)
    if word == "put":
        return take_put(reader)
    if word == "each":
        return take_each(reader)
    return (word, take_expression(reader, DEEPEST))


def take_let(reader):
    """Read a let behind its word."""
    variable = reader.take_name()
    reader.take(" = ")
    return ("let", variable, take_expression(reader, DEEPEST))


def take_put(reader):
    """Read a put behind its word."""
    table = reader.take_name()
    reader.take("[")
    key = take_expression(reader, DEEPEST)
    reader.take("].")
    column = reader.take_name()
    reader.take(" = ")
    return ("put", table, key, column, take_expression(reader, DEEPEST))


def take_each(reader):
    """Read an each behind its word."""
    table = reader.take_name()
    reader.take(" if ")
    wanted = take_expression(reader, DEEPEST)
    reader.take(" put ")
    column = reader.take_name()
    reader.take(" = ")
    return ("each", table, wanted, column, take_expression(reader, DEEPEST))
