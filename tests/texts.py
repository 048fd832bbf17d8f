"""Logs and expressions from texts."""

from lookdone.expressiontexts import read_expression
from lookdone.logs import log_of
from lookdone.statementtexts import read_transaction


def log_from(*texts):
    """The log of the transactions of these texts."""
    return log_of(*[read_transaction(text) for text in texts])


def moved(log, *places):
    """The log with its entries at these places, and the last one as its last mark but one moment."""
    entries = tuple((place, entry[1]) for place, entry in zip(places, log[1]))
    assert len(entries) == len(log[1]) == len(places) - 1
    return (0, places[-1]), entries


def query(text, **lets):
    """The expression of the text, with ("let", q) in place of the variables that are given."""
    return with_lets(read_expression(text), lets)


def with_lets(thing, lets):
    if not isinstance(thing, tuple):
        return thing
    if thing[:1] == ("var",):
        return ("let", lets[thing[1]])
    return tuple(with_lets(part, lets) for part in thing)


def chain(first, *more, per=40):
    """The log of these lines, in transactions of at most so many statements."""
    lines = [first, *more]
    return log_from(*["\n".join(lines[start:start + per]) for start in range(0, len(lines), per)])


def asked_twice(test, function, *given, **named):
    """The answer; it is the same once more, and what is given is not changed."""
    before = repr((given, named))
    found = function(*given, **named)
    shown = repr(found)
    test.assertEqual(repr(function(*given, **named)), shown)
    test.assertEqual(repr((given, named)), before)
    test.assertEqual(repr(found), shown)
    return found
