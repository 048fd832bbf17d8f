"""Point 8: statements and transactions, and lookdone/statements.py."""

import random
import unittest

from lookdone.expressions import is_simple
from lookdone.statements import is_transaction
from tests.samples import (
    KEY, L, LED_BACK, ONE, OTHER_THINGS, PLAIN, RESERVED, ROWS, TWO, X, deep, nested, random_transaction,
)

LET_X = ("let", "x", ONE)

# A statement of each form, and what stands at its places: a name, an expression
# without a free key, or a simple one that may have some.
FORMS = {
    ("let", "y", ONE): ("name", "keyless"),
    ("need", ONE): ("keyless",),
    ("put", "t", ONE, "a", TWO): ("name", "keyless", "name", "keyless"),
    ("each", "t", ONE, "a", TWO): ("name", "row", "name", "row"),
    ("tell", ONE): ("keyless",),
}

KEYLESS = (
    ONE, X, ("int", L), ("cell", "t", X, "a"), ("at", X, KEY), ("if", X, ONE, ("at", ONE, KEY)),
    ("count", "t", (), ROWS, KEY), ("sum", "t", (), ROWS, KEY, ("cell", "t", KEY, "a")),
    ("most", "t", (), ROWS, X, KEY, X), ("first", "t", (), ROWS, KEY, ONE),
    ("at", ("int", 3), ("first", "t", (), ROWS, ("<", KEY, ("int", 9)), KEY)),
)

# Plain, but with a free key.
WITH_KEY = (
    KEY, ("+", ONE, KEY), ("at", KEY, KEY), ("cell", "t", KEY, "a"), ("if", ONE, TWO, KEY),
    ("most", "t", (), ROWS, ONE, ONE, KEY), ("first", "t", (), ROWS, ONE, ("+", KEY, ONE)),
)

NO_EXPRESSIONS = (
    ("int", L + 1), ("int", True), ("var", "key"), ("+", ONE), ("+", ONE, 1), ("cell", "t", ONE, "abcdefghi"),
    ["int", 1], ("count", "t", (), ROWS), ("at", ONE, ["key"]), 1, "1", None, "x",
)


def with_part(kind, part):
    """A statement of each form, with the part in each place of this kind."""
    for statement, kinds in FORMS.items():
        for place, other in enumerate(kinds, 1):
            if other == kind:
                yield statement[:place] + (part,) + statement[place + 1:]


class StatementsTest(unittest.TestCase):

    def check(self, thing, wanted):
        with self.subTest(thing=thing):
            self.assertIs(is_transaction(thing), wanted)

    def test_each_form(self):
        self.check((), True)
        for statement in FORMS:
            self.check((statement,), True)
        self.check(tuple(FORMS), True)
        self.check(tuple(FORMS)[::-1], True)
        self.check((("tell", ONE),) * 40, True)

    def test_things_that_are_none(self):
        for thing in OTHER_THINGS:
            if thing != ():
                self.check(thing, False)
            self.check((thing,), False)
            self.check((LET_X, thing), False)
            self.check((thing, LET_X), False)
        for statement in FORMS:
            self.check(statement, False)
            self.check([statement], False)
            self.check((list(statement),), False)
            self.check(((statement,),), False)
        self.check([], False)
        self.check("let x = 1", False)
        self.check(("let x = 1",), False)
        self.check(nested(LET_X, 28), False)

    def test_a_part_left_out_or_too_many(self):
        for statement in FORMS:
            for place in range(len(statement)):
                self.check((statement[:place] + statement[place + 1:],), False)
            for more in (None, "t", ONE, ()):
                self.check((statement + (more,),), False)
                self.check(((more,) + statement,), False)

    def test_words(self):
        for word in ("", "Let", "let ", "lets", "say", "if", "key", "count", "int", "var", None, 1, True, ("let",), []):
            for statement in FORMS:
                self.check(((word,) + statement[1:],), False)
        self.check((("need", ONE), ("key",)), False)

    def test_names(self):
        for name in ("a", "z", "in", "abcdefgh", "keys", "puts"):
            for statement in with_part("name", name):
                self.check((statement,), True)
        for name in ("", "abcdefghi", "A", "a1", "a_", "a ", "\n", *RESERVED, None, True, 1, (), ("a",), ["a"], X):
            for statement in with_part("name", name):
                self.check((LET_X, statement), False)

    def test_expressions_without_a_free_key(self):
        for part in KEYLESS:
            for statement in with_part("keyless", part):
                self.check((LET_X, statement), True)
        for part in WITH_KEY:
            for statement in with_part("keyless", part):
                self.check((LET_X, statement), False)

    def test_expressions_of_an_each(self):
        for part in KEYLESS + WITH_KEY:
            for statement in with_part("row", part):
                self.check((LET_X, statement), is_simple(part))
        inner = ("+", ONE, ("count", "t", (), ROWS, ONE))
        for part in (inner, ("at", KEY, inner), ("if", KEY, ONE, inner), ("cell", "t", inner, "a")):
            for statement in with_part("row", part):
                self.check((LET_X, statement), False)

    def test_expressions_that_are_not_plain(self):
        for part in LED_BACK:
            for around in (part, ("+", ONE, part), ("at", ONE, part)):
                for kind in ("keyless", "row"):
                    for statement in with_part(kind, around):
                        self.check((LET_X, statement), False)

    def test_things_that_are_no_expressions(self):
        for part in (*NO_EXPRESSIONS, *OTHER_THINGS):
            for around in (part, ("+", ONE, part), ("at", ONE, part)):
                for kind in ("keyless", "row"):
                    for statement in with_part(kind, around):
                        self.check((LET_X, statement), False)

    def test_variables_are_let_before_they_are_used(self):
        uses = [*with_part("keyless", X), *with_part("row", X), *with_part("keyless", ("at", ONE, X))]
        uses += [*with_part("keyless", ("count", "t", (), ROWS, X)), *with_part("row", ("at", KEY, ("+", X, KEY)))]
        for use in uses:
            self.check((use,), False)
            self.check((use, LET_X), False)
            self.check((LET_X, use), True)
            self.check((LET_X, ("tell", ONE), use, ("tell", X)), True)
            self.check((("let", "z", ONE), use), False)
        self.check((("let", "x", X),), False)
        self.check((("let", "x", ("+", ONE, X)),), False)
        self.check((LET_X, ("let", "y", X), ("let", "z", ("+", X, ("var", "y")))), True)
        self.check((("let", "y", X), LET_X), False)
        self.check((LET_X, ("tell", ("var", "y"))), False)
        self.check((LET_X, ("tell", ("+", X, ("var", "y")))), False)

    def test_no_variable_is_let_twice(self):
        self.check((LET_X, LET_X), False)
        self.check((LET_X, ("let", "y", ONE), ("let", "x", TWO)), False)
        self.check((LET_X, ("let", "x", X)), False)
        self.check((LET_X, ("let", "y", ONE), ("let", "z", ONE)), True)

    def test_names_of_tables_columns_and_variables_do_not_meet(self):
        self.check((("let", "t", ONE), ("put", "t", ("var", "t"), "t", ("cell", "t", ("var", "t"), "t"))), True)

    def test_random_transactions(self):
        draw = random.Random(6)
        for _ in range(300):
            transaction = random_transaction(draw, 8)
            self.check(transaction, True)
            # A let that is taken out is one that nobody used, or it is missed.
            for place, statement in enumerate(transaction):
                if statement[0] == "let":
                    rest = transaction[:place] + transaction[place + 1:]
                    used = repr(("var", statement[1])) in repr(rest)
                    self.check(rest, not used)

    def test_nested_deep(self):
        for times in (30, 100, 20000):
            thing = deep(times, lambda e: ("+", e, ONE))
            self.assertIs(is_transaction((("tell", thing),)), True)
            self.assertIs(is_transaction((("each", "t", thing, "a", thing),)), True)
            self.assertIs(is_transaction((("tell", deep(times, lambda e: ("+", e, ONE), KEY)),)), False)
            self.assertIs(is_transaction((("tell", deep(times, lambda e: ("+", e, ONE), ["int"])),)), False)

    def test_the_thing_is_not_changed(self):
        thing = [("let", "x", ONE), ["tell", {"a": [1]}]]
        self.assertIs(is_transaction(thing), False)
        self.assertIs(is_transaction(tuple(thing)), False)
        self.assertEqual(thing, [("let", "x", ONE), ["tell", {"a": [1]}]])
        for _, text in PLAIN:
            self.assertEqual(is_transaction((text,)), is_transaction((text,)))


if __name__ == "__main__":
    unittest.main()
