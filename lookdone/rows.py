"""The rows of the console: what stands in them."""

from lookdone.errors import BadRow, BadText
from lookdone.expressions import is_closed
from lookdone.expressiontexts import read_expression
from lookdone.numbertexts import integer_in, number_in
from lookdone.statementtexts import read_transaction

MOST_DIGITS = 4000

SLOT_WORDS = ("let", "need", "tell", "key", "value", "guard")


def row_in(thing):
    """The row that the thing, any value of Python, is: its word and what it says, or BadRow."""
    if not isinstance(thing, str) or "\n" in thing:
        raise BadRow()
    word, rest = parted_at_blank(thing)
    if word not in READERS:
        raise BadRow()
    reader = READERS[word]
    return (word, *reader(rest))


def parted_at_blank(text):
    """What stands before and behind the first blank; None behind it if there is no blank."""
    first, blank, rest = text.partition(" ")
    return (first, rest if blank else None)


def read_nothing(rest):
    """Nothing may stand behind the word."""
    if rest is not None:
        raise BadRow()
    return ()


def read_statements(rest):
    """A transaction, or nothing for the empty one."""
    if rest is None:
        return ((),)
    # The empty text is one of a transaction, but a blank stands before it.
    if rest == "":
        raise BadRow()
    try:
        return (read_transaction(rest.replace("; ", "\n")),)
    except BadText:
        raise BadRow() from None


def read_query(rest):
    """A closed plain expression."""
    if rest is None:
        raise BadRow()
    try:
        expression = read_expression(rest)
    except BadText:
        raise BadRow() from None
    if not is_closed(expression):
        raise BadRow()
    return (expression,)


def read_number(rest):
    """A number from 0 on."""
    number = None if rest is None else number_in(rest, MOST_DIGITS)
    if number is None:
        raise BadRow()
    return (number,)


def read_look(rest):
    """A moment, or None, and an expression. A number alone is an expression."""
    if rest is None:
        raise BadRow()
    first, more = parted_at_blank(rest)
    moment = number_in(first, MOST_DIGITS)
    if moment is None or more is None:
        return (None, *read_query(rest))
    return (moment, *read_query(more))


def read_cut(rest):
    """A position and an expression."""
    if rest is None:
        raise BadRow()
    first, more = parted_at_blank(rest)
    return (*read_number(first), *read_query(more))


def read_early(rest):
    """What has the form of a slot."""
    words = [] if rest is None else rest.split(" ")
    if len(words) not in (2, 3) or words[1] not in SLOT_WORDS:
        raise BadRow()
    slot = (*read_number(words[0]), words[1])
    if len(words) == 2:
        return (slot,)
    key = integer_in(words[2])
    if key is None:
        raise BadRow()
    return ((*slot, key),)


def read_inner(rest):
    """The number of a session, and what is done in it: its word, and what it says."""
    if rest is None:
        raise BadRow()
    first, more = parted_at_blank(rest)
    number = read_number(first)
    if more is None:
        raise BadRow()
    word, inmost = parted_at_blank(more)
    if word == "look":
        return (*number, word, *read_query(inmost))
    if word == "do":
        return (*number, word, *read_statements(inmost))
    raise BadRow()


READERS = {
    "do": read_statements,
    "look": read_look,
    "cut": read_cut,
    "needs": read_query,
    "span": read_query,
    "evaluated": read_nothing,
    "moment": read_nothing,
    "early": read_early,
    "keep": read_nothing,
    "free": read_number,
    "open": read_nothing,
    "in": read_inner,
    "close": read_number,
    "restart": read_number,
    "compact": read_nothing,
}
