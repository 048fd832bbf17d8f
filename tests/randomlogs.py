"""Random logs in which much is unknown, and expressions that may stand in them."""

from lookdone.logs import log_of
from tests.samples import KEY, L, ONE

TABLES = ("t", "s")
COLUMNS = ("a", "b", "in")
NAMES = "pqrstuvwxyz"


def rows_of(table):
    return ("cell", table, KEY, "in")


def small(draw, known):
    """Something of which the span has two values, or few."""
    table = draw.choice(TABLES)
    hidden = draw.choice((
        ("count", table, (), rows_of(table), ONE),
        ("sum", table, (), rows_of(table), ("<", KEY, ("int", draw.randrange(3))), KEY),
        ("first", table, (), rows_of(table), ONE, ("int", 0)),
        *[("var", name) for name in known],
    ))
    low = draw.randrange(-1, 3)
    return draw.choice((
        ("if", hidden, ("int", low), ("int", low + draw.choice((1, 1, 2)))),
        ("<", hidden, ("int", draw.randrange(3))),
        ("=", hidden, ("int", draw.randrange(3))),
    ))


def expression(draw, room, known=(), has_key=False, is_simple=False):
    """A plain expression over these variables, nested about as deep as there is room."""

    def inner(key=has_key):
        return expression(draw, room - 1, known, key, is_simple)

    leaves = [("int", draw.choice((0, 1, 1, 2, 3, -1, L, -L)))] + [("var", name) for name in known] + [KEY] * has_key
    if room <= 1:
        return draw.choice(leaves)
    if not is_simple and draw.random() < 0.25:
        return small(draw, known)
    table = draw.choice(TABLES)
    word = draw.choice(("leaf", "cell", "cell", "cell", "+", "-", "*", "<", "=", "if", "at", "most", "aggregate"))
    if word == "leaf":
        return draw.choice(leaves)
    if word == "cell":
        return ("cell", table, inner(), draw.choice(COLUMNS))
    if word == "if":
        return ("if", inner(), inner(), inner())
    if word == "at":
        return ("at", inner(), inner(True))
    if word in ("most", "aggregate"):
        return inner() if is_simple else aggregate(draw, table, (), rows_of(table), inner)
    return (word, inner(), inner())


def aggregate(draw, table, extra, rows, inner):
    """An aggregate, its other parts by inner(has_key) and inner()."""
    word = draw.choice(("count", "sum", "most", "first"))
    parts = [draw.choice((ONE, inner(True)))]
    if word in ("sum", "most"):
        parts.append(inner(True))
    if word in ("most", "first"):
        parts.append(inner())
    return (word, table, extra, rows, *parts)


def free_expression(draw, room, lets, has_key=False):
    """An expression that is not plain, over the lets at these positions."""

    def inner(key=has_key):
        return free_expression(draw, room - 1, lets, key)

    leaves = [("int", draw.randrange(-1, 4))] + [("let", place) for place in lets] * 2 + [KEY] * has_key
    if room <= 1:
        return draw.choice(leaves)
    table = draw.choice(TABLES)
    word = draw.choice(("leaf", "cell", "cell", "+", "-", "*", "<", "=", "if", "at", "most", "most"))
    if word == "leaf":
        return draw.choice(leaves)
    if word == "cell":
        return ("cell", table, inner(), draw.choice(COLUMNS))
    if word == "if":
        return ("if", inner(), inner(), inner())
    if word == "at":
        return ("at", inner(), inner(True))
    if word == "most":
        extra = tuple(inner() for _ in range(draw.choice((0, 1, 2, 3))))
        return aggregate(draw, table, extra, draw.choice((rows_of(table), inner(True))), inner)
    return (word, inner(), inner())


def statement(draw, known, fresh):
    """A statement over the variables that are known; a let takes the fresh one."""
    table = draw.choice(TABLES)
    column = draw.choice(COLUMNS)
    room = draw.choice((2, 2, 3))

    def keyless():
        return draw.choice((small(draw, known), expression(draw, room, known)))

    word = draw.choice(("let", "let", "put", "put", "put", "put", "each", "each", "need", "tell"))
    if word == "let":
        return ("let", fresh, keyless())
    if word == "put":
        place = draw.choice((keyless(), small(draw, known), ("int", draw.randrange(4))))
        return ("put", table, place, column, draw.choice((keyless(), ONE)))
    if word == "each":
        condition = draw.choice((row(draw, known), expression(draw, room, known, True, True)))
        return ("each", table, condition, column, expression(draw, room, known, True, True))
    return (word, keyless())


def row(draw, known):
    """Something about a row that is seldom known."""
    cell = ("cell", draw.choice(TABLES), KEY, draw.choice(COLUMNS))
    other = draw.choice([cell, ("int", draw.randrange(3))] + [("var", name) for name in known] * 2)
    return (draw.choice("<=+-"), draw.choice((cell, KEY)), other)


def rows(draw):
    """A transaction that makes some rows."""
    keys = [draw.randrange(4) for _ in range(draw.randrange(1, 4))]
    values = [draw.choice((ONE, small(draw, ()))) for _ in keys]
    return tuple(("put", draw.choice(TABLES), ("int", key), "in", value) for key, value in zip(keys, values))


def transaction(draw, many):
    """A transaction of so many statements."""
    known = ()
    statements = []
    for name in NAMES[:many]:
        statements.append(statement(draw, known, name))
        if statements[-1][0] == "let":
            known += (name,)
    return tuple(statements)


def random_log(draw, many=4, has_gaps=None):
    """A log of up to so many transactions, perhaps with positions left out."""
    log = log_of(rows(draw), *[transaction(draw, draw.randrange(6)) for _ in range(draw.randint(1, many))])
    if draw.random() < 0.5 if has_gaps is None else has_gaps:
        return spread(draw, log)
    return log


def spread(draw, log):
    """The log with other positions, in the same order, of which some are left out."""
    marks, entries = log
    places = []
    found = [0]
    here = 0
    for mark, after in zip(marks, marks[1:]):
        for _ in range(mark, after):
            here += draw.choice((0, 0, 0, 1, 3))
            places.append(here)
            here += 1
        here += draw.choice((0, 0, 2))
        found.append(here)
    return tuple(found), tuple((place, entry[1]) for place, entry in zip(places, entries))


def lets_below(log, position):
    return [place for place, one in log[1] if one[0] == "let" and place < position]


def standing(draw, log, room=4):
    """A closed expression and a position of the log at which it may stand."""
    position = draw.choice((log[0][-1], draw.randint(0, log[0][-1])))
    if draw.random() < 0.5:
        return expression(draw, room), position
    return free_expression(draw, room, lets_below(log, position)), position
