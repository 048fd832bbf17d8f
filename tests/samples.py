"""Expressions, things and random choices that several tests use."""

L = 10 ** 18

RESERVED = ("key", "if", "at", "count", "sum", "most", "first", "let", "need", "put", "each", "tell")

KEY = ("key",)
ONE = ("int", 1)
TWO = ("int", 2)
X = ("var", "x")
ROWS = ("cell", "t", KEY, "in")

# An expression of each form, with its text; all of them are plain.
PLAIN = (
    (("int", 0), "0"),
    (("int", 7), "7"),
    (("int", -7), "-7"),
    (("int", 100), "100"),
    (("int", L), "1000000000000000000"),
    (("int", -L), "-1000000000000000000"),
    (("var", "x"), "x"),
    (("var", "keys"), "keys"),
    (("var", "in"), "in"),
    (("var", "abcdefgh"), "abcdefgh"),
    (KEY, "key"),
    (("cell", "t", ONE, "a"), "t[1].a"),
    (("cell", "in", KEY, "in"), "in[key].in"),
    (("cell", "t", ("cell", "s", ONE, "b"), "a"), "t[s[1].b].a"),
    (("+", ONE, TWO), "(1 + 2)"),
    (("-", ONE, ("int", -2)), "(1 - -2)"),
    (("*", ("+", ONE, TWO), X), "((1 + 2) * x)"),
    (("<", KEY, ("int", 9)), "(key < 9)"),
    (("=", ONE, ("=", ONE, TWO)), "(1 = (1 = 2))"),
    (("if", ONE, TWO, X), "if(1, 2, x)"),
    (("at", ONE, KEY), "at(1, key)"),
    (("count", "t", (), ROWS, ONE), "count(t, 1)"),
    (("sum", "t", (), ROWS, ONE, KEY), "sum(t, 1, key)"),
    (("most", "t", (), ROWS, ONE, KEY, X), "most(t, 1, key, x)"),
    (("first", "t", (), ROWS, ("<", KEY, TWO), ("int", -1)), "first(t, (key < 2), -1)"),
    (("count", "s", (), ("cell", "s", KEY, "in"), ("count", "t", (), ROWS, KEY)), "count(s, count(t, key))"),
    (
        ("if", ("<", X, ("int", 3)), ("cell", "t", ("+", X, ONE), "a"),
         ("sum", "t", (), ROWS, ("=", ("cell", "t", KEY, "a"), ("int", -1)), KEY)),
        "if((x < 3), t[(x + 1)].a, sum(t, (t[key].a = -1), key))",
    ),
    (
        ("at", ("int", 3), ("first", "t", (), ROWS, ("<", KEY, ("int", 9)), KEY)),
        "at(3, first(t, (key < 9), key))",
    ),
)

# Expressions that have no text.
LED_BACK = (
    ("let", 0),
    ("let", 10 ** 30),
    ("+", ONE, ("let", 3)),
    ("count", "t", (TWO,), ROWS, ONE),
    ("count", "t", (), ONE, ONE),
    ("count", "t", (), ("cell", "s", KEY, "in"), ONE),
    ("count", "t", (), ("cell", "t", ONE, "in"), ONE),
    ("count", "t", (), ("cell", "t", KEY, "a"), ONE),
    ("sum", "t", (X, KEY, ("let", 1)), ("at", KEY, KEY), ONE, KEY),
    ("most", "t", (ONE, ONE), ROWS, ONE, KEY, ONE),
    ("first", "t", (), ("-", ONE, ONE), ONE, ONE),
    ("if", ONE, TWO, ("first", "t", (ONE,), ROWS, ONE, ONE)),
)

EXPRESSIONS = tuple(expression for expression, text in PLAIN) + LED_BACK


def nested(thing, times):
    for _ in range(times):
        thing = [thing]
    return thing


# Things of all kinds that are no expressions, no statements and no transactions
# (but for the empty tuple, the empty transaction).
OTHER_THINGS = (
    None, True, False, 0, 1, -1, L, 10 ** 39, "", "x", "key", "1", "int", (), [], {}, ("",), ((),), ([],),
    (None,), (1,), (True,), ({},), ("none",), ("Int", 1), ("int ", 1), ["int", 1], {"int": 1}, {0: "int", 1: 1},
    [("int", 1)], (("int",), 1), (["int"], 1), ("integer", 1), ("%", ONE, ONE), ("/", ONE, ONE), (">", ONE, ONE),
    ("==", ONE, ONE), ("not", ONE), ("least", "t", (), ROWS, ONE, ONE, ONE), nested((), 29), nested(ONE, 28),
)


def deep(times, wrap, inmost=ONE):
    """The expression wrapped so many times."""
    for _ in range(times):
        inmost = wrap(inmost)
    return inmost


def random_expression(draw, room, variables=("x", "y"), has_key=True, is_simple=False):
    """A plain expression, nested at most as deep as there is room."""

    def inner(key=has_key):
        return random_expression(draw, room - 1, variables, key, is_simple)

    words = ["int"] + ["var"] * bool(variables) + ["key"] * has_key
    if room > 1:
        words += ["cell", "cell", "+", "-", "*", "<", "=", "if", "at"]
    if room > 2 and not is_simple:
        words += ["count", "sum", "most", "first"]
    word = draw.choice(words)
    table = draw.choice(("t", "s"))
    rows = ("cell", table, KEY, "in")
    if word == "int":
        return ("int", draw.choice((0, 0, 1, 1, 2, 3, -1, -4, L, -L, 10 ** 9)))
    if word == "var":
        return ("var", draw.choice(variables))
    if word == "key":
        return KEY
    if word == "cell":
        return ("cell", table, inner(), draw.choice(("a", "b", "in")))
    if word == "if":
        return ("if", inner(), inner(), inner())
    if word == "at":
        return ("at", inner(), inner(True))
    if word == "count":
        return ("count", table, (), rows, inner(True))
    if word == "sum":
        return ("sum", table, (), rows, inner(True), inner(True))
    if word == "most":
        return ("most", table, (), rows, inner(True), inner(True), inner())
    if word == "first":
        return ("first", table, (), rows, inner(True), inner())
    return (word, inner(), inner())


def random_statement(draw, known, fresh):
    """A statement over the variables that are known; a let takes the fresh one."""
    room = draw.choice((1, 2, 3, 4))

    def keyless():
        return random_expression(draw, room, known, False)

    def row():
        return random_expression(draw, room, known, True, True)

    word = draw.choice(("let", "need", "put", "put", "put", "put", "each", "each", "tell"))
    table = draw.choice(("t", "s"))
    column = draw.choice(("a", "b", "in", "in"))
    if word == "let":
        return ("let", fresh, keyless())
    if word == "put":
        place = draw.choice((keyless(), ("int", draw.randrange(4))))
        return ("put", table, place, column, keyless())
    if word == "each":
        return ("each", table, row(), column, row())
    return (word, keyless())


def random_transaction(draw, many):
    """A transaction of so many statements."""
    known = ()
    statements = []
    for number in range(many):
        statement = random_statement(draw, known, "abcdefghijklmnopqrstuvwxyz"[number])
        if statement[0] == "let":
            known += (statement[1],)
        statements.append(statement)
    return tuple(statements)
