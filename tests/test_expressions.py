"""Points 2, 4, 5 and 6, of point 30 what an expression names, and lookdone/expressions.py."""

import random
import unittest

from lookdone.expressions import (
    columns_of, depth_of, is_closed, is_expression, is_plain, is_simple, keyed, parts_of, variables_of,
)
from tests.samples import (
    EXPRESSIONS, KEY, L, LED_BACK, ONE, OTHER_THINGS, PLAIN, RESERVED, ROWS, TWO, X, deep, nested,
    random_expression,
)

# What stands behind the word of each form of point 4.
FORMS = {
    "int": ("value",), "var": ("name",), "key": (), "let": ("position",), "cell": ("name", "e", "name"),
    "+": ("e", "e"), "-": ("e", "e"), "*": ("e", "e"), "<": ("e", "e"), "=": ("e", "e"), "if": ("e", "e", "e"),
    "at": ("e", "e"), "count": ("name", "extra", "e", "e"), "sum": ("name", "extra", "e", "e", "e"),
    "most": ("name", "extra", "e", "e", "e", "e"), "first": ("name", "extra", "e", "e", "e"),
}

RIGHT = {
    "value": (0, 1, -1, L, -L, L - 1, 1 - L),
    "name": ("a", "z", "x", "in", "abcdefgh", "zzzzzzzz", "keys", "iff", "le", "puts", "summ", "int", "var", "cell"),
    "position": (0, 1, 10000, 10 ** 30),
    "e": EXPRESSIONS,
    "extra": ((), (ONE,), (ONE, ONE), (KEY, X, ("let", 0)), EXPRESSIONS),
}

WRONG = {
    "value": (None, True, False, "1", "", L + 1, -L - 1, 10 ** 39, -10 ** 39, (), (1,), [1], {}, ONE),
    "name": (
        "", "abcdefghi", "abcdefghijklmnop", "A", "aB", "x1", "1", "x_", "_", "x y", " x", "x ", "x\n", "\n", "x-", "`",
        "{", *RESERVED, None, True, 1, 0, (), ("x",), ["x"], {"x": 1}, X,
    ),
    "position": (None, True, False, -1, -L, "0", (), (0,), [0], ONE),
    "e": OTHER_THINGS,
    "extra": (None, True, 0, "", "x", [], [ONE], {}, {ONE: ONE}, ONE, KEY, X, ((),), ((ONE,),), (ONE, None), (ONE, 1)),
}

EXAMPLE = {"value": 5, "name": "t", "position": 5, "e": ONE, "extra": ()}


def of_form(word):
    return (word, *[EXAMPLE[kind] for kind in FORMS[word]])


def forms_with(kind, part):
    """An expression of each form, with the part in each place of this kind."""
    for word, kinds in FORMS.items():
        for place, other in enumerate(kinds, 1):
            if other == kind:
                thing = of_form(word)
                yield thing[:place] + (part,) + thing[place + 1:]


def contained(expression):
    """What an expression contains directly."""
    for kind, part in zip(FORMS[expression[0]], expression[1:]):
        if kind == "e":
            yield part
        elif kind == "extra":
            yield from part


def all_parts(expression):
    yield expression
    for part in contained(expression):
        yield from all_parts(part)


class IsExpressionTest(unittest.TestCase):

    def test_each_form(self):
        for word in FORMS:
            self.assertIs(is_expression(of_form(word)), True)
        for expression in EXPRESSIONS:
            self.assertIs(is_expression(expression), True)

    def test_other_things(self):
        for thing in OTHER_THINGS:
            with self.subTest(thing=thing):
                self.assertIs(is_expression(thing), False)

    def test_right_parts(self):
        for kind, parts in RIGHT.items():
            for part in parts:
                for thing in forms_with(kind, part):
                    with self.subTest(thing=thing):
                        self.assertIs(is_expression(thing), True)

    def test_wrong_parts(self):
        for kind, parts in WRONG.items():
            for part in parts:
                for thing in forms_with(kind, part):
                    with self.subTest(thing=thing):
                        self.assertIs(is_expression(thing), False)

    def test_a_wrong_part_far_within(self):
        for kind, parts in WRONG.items():
            for part in parts:
                for thing in forms_with(kind, part):
                    for around in forms_with("e", ("if", ONE, TWO, thing)):
                        self.assertIs(is_expression(around), False)
                    for around in forms_with("extra", (ONE, thing)):
                        self.assertIs(is_expression(around), False)

    def test_a_part_left_out_or_too_many(self):
        for word in FORMS:
            thing = of_form(word)
            for place in range(len(thing)):
                self.assertIs(is_expression(thing[:place] + thing[place + 1:]), False)
            for more in (None, 0, "t", ONE, ()):
                self.assertIs(is_expression(thing + (more,)), False)
                self.assertIs(is_expression((more,) + thing), False)

    def test_a_list_in_place_of_a_tuple(self):
        for word in FORMS:
            self.assertIs(is_expression(list(of_form(word))), False)
            for around in forms_with("e", list(of_form(word))):
                self.assertIs(is_expression(around), False)

    def test_words(self):
        for word in ("", "Int", "int ", " int", "ints", "keys", "none", "/", "%", ">", "==", "++", "tell", "need", "put"):
            for many in range(7):
                self.assertIs(is_expression((word, *[ONE] * many)), False)
        for word in (None, 1, True, ("int",), ["int"], {"int": 1}, [], {}):
            self.assertIs(is_expression((word, 1)), False)

    def test_nested_deep(self):
        self.assertIs(is_expression(nested(ONE, 28)), False)
        for times in (15, 30, 100, 20000):
            self.assertIs(is_expression(deep(times, lambda e: ("+", e, ONE))), True)
            self.assertIs(is_expression(deep(times, lambda e: ("at", ONE, e))), True)
            self.assertIs(is_expression(deep(times, lambda e: ("count", "t", (e,), ONE, ONE))), True)
            self.assertIs(is_expression(deep(times, lambda e: ("+", e, ONE), ["int", 1])), False)
            self.assertIs(is_expression(deep(times, lambda e: ("count", "t", (), ROWS, e), ("int", True))), False)


class PartsTest(unittest.TestCase):

    def test_examples(self):
        thing = (
            "if", ("<", X, ("int", 3)), ("cell", "t", ("+", X, ONE), "a"), ("int", 7),
        )
        self.assertEqual((parts_of(thing), depth_of(thing)), (9, 4))
        for thing, parts, depth in (
            (ONE, 1, 1), (X, 1, 1), (KEY, 1, 1), (("let", 4), 1, 1),
            (("cell", "t", ONE, "a"), 2, 2),
            (("+", ONE, ONE), 3, 2),
            (("+", ("+", ONE, ONE), ONE), 5, 3),
            (("+", ONE, ("+", ONE, ONE)), 5, 3),
            (("at", ("cell", "t", ONE, "a"), KEY), 4, 3),
            (("at", ONE, ("cell", "t", KEY, "a")), 4, 3),
            (("count", "t", (), ROWS, ONE), 4, 3),
            (("count", "t", (), ONE, ONE), 3, 2),
            (("count", "t", (ONE, ONE, ("-", ONE, ONE)), ONE, ONE), 8, 3),
            (("sum", "t", (), ROWS, ONE, ONE), 5, 3),
            (("most", "t", (), ROWS, ONE, ONE, ONE), 6, 3),
            (("first", "t", (), ROWS, ONE, ONE), 5, 3),
            (("most", "t", (), ONE, ONE, ONE, ("count", "t", (), ROWS, ONE)), 8, 4),
        ):
            self.assertEqual((parts_of(thing), depth_of(thing)), (parts, depth))

    def test_against_the_definition(self):

        def depth(expression):
            return 1 + max([depth(part) for part in contained(expression)], default=0)

        draw = random.Random(1)
        for expression in EXPRESSIONS + tuple(random_expression(draw, 7) for _ in range(300)):
            self.assertEqual(parts_of(expression), len(list(all_parts(expression))))
            self.assertEqual(depth_of(expression), depth(expression))

    def test_each_place_counts(self):
        part = ("cell", "t", ("+", ONE, ("*", ONE, ONE)), "a")
        for thing in list(forms_with("e", part)):
            self.assertEqual(depth_of(thing), 5)
        for thing in list(forms_with("extra", (ONE, part))):
            self.assertEqual(depth_of(thing), 5)
            self.assertEqual(parts_of(thing), 7 + len(list(contained(thing))) - 1)

    def test_of_however_many_parts(self):
        for wrap, more in (
            (lambda e: ("+", e, ONE), 2), (lambda e: ("if", ONE, ONE, e), 3), (lambda e: ("cell", "t", e, "a"), 1),
            (lambda e: ("at", ONE, e), 2), (lambda e: ("count", "t", (e,), ONE, ONE), 3),
            (lambda e: ("sum", "t", (), e, ONE, ONE), 3), (lambda e: ("most", "t", (), ONE, ONE, ONE, e), 4),
        ):
            thing = deep(30000, wrap)
            self.assertEqual(depth_of(thing), 30001)
            self.assertEqual(parts_of(thing), 30000 * more + 1)
        wide = deep(16, lambda e: ("+", e, e))
        self.assertEqual((parts_of(wide), depth_of(wide)), (2 ** 17 - 1, 17))
        many = ("count", "t", (ONE,) * 100000, ONE, ONE)
        self.assertEqual((parts_of(many), depth_of(many)), (100003, 2))


class KindsTest(unittest.TestCase):

    def check(self, question, thing, wanted):
        with self.subTest(question=question.__name__, thing=thing):
            self.assertIs(question(thing), wanted)

    def test_plain(self):
        for expression, _ in PLAIN:
            self.check(is_plain, expression, True)
        for expression in LED_BACK:
            self.check(is_plain, expression, False)

    def test_plain_within(self):
        for wrong in LED_BACK:
            for thing in forms_with("e", wrong):
                self.check(is_plain, thing, False)
        for word in ("count", "sum", "most", "first"):
            plain = of_form(word)
            self.check(is_plain, plain, False)
            plain = plain[:3] + (ROWS,) + plain[4:]
            self.check(is_plain, plain, True)
            for extra in ((ONE,), (KEY,), (ONE, TWO)):
                self.check(is_plain, plain[:2] + (extra,) + plain[3:], False)
            for rows in (ONE, KEY, ("cell", "s", KEY, "in"), ("cell", "t", KEY, "inn"), ("cell", "t", ROWS, "in")):
                self.check(is_plain, plain[:3] + (rows,) + plain[4:], False)
            self.check(is_plain, plain[:1] + ("s",) + plain[2:], False)
            self.check(is_plain, ("at", ONE, ("+", ONE, plain)), True)

    def test_simple(self):
        for word in FORMS:
            thing = of_form(word)
            wanted = word not in ("count", "sum", "most", "first")
            self.check(is_simple, thing, wanted)
            for around in forms_with("e", thing):
                self.check(is_simple, around, wanted and around[0] not in ("count", "sum", "most", "first"))

    def test_closed(self):
        for thing in (
            ONE, ("let", 0), ("at", ONE, KEY), ("cell", "t", ONE, "a"), ("count", "t", (ONE,), KEY, KEY),
            ("sum", "t", (), KEY, KEY, KEY), ("most", "t", (ONE,), KEY, KEY, KEY, ONE), ("first", "t", (), KEY, KEY, ONE),
            ("count", "t", (), ROWS, ("at", KEY, KEY)), ("at", ONE, ("first", "t", (KEY,), KEY, KEY, KEY)),
            ("count", "t", (), ("most", "s", (KEY,), KEY, KEY, KEY, KEY), ("first", "s", (KEY,), KEY, KEY, KEY)),
            ("at", ("int", 3), ("first", "t", (), ROWS, ("<", KEY, ("int", 9)), KEY)),
        ):
            self.check(is_closed, thing, True)

    def test_not_closed_for_a_key(self):
        for thing in (
            KEY, ("cell", "t", KEY, "a"), ("at", KEY, ONE), ("at", KEY, KEY), ("count", "t", (KEY,), ONE, ONE),
            ("count", "t", (ONE, KEY), ONE, ONE), ("sum", "t", (("+", KEY, ONE),), ROWS, ONE, ONE),
            ("most", "t", (), ROWS, ONE, ONE, KEY), ("most", "t", (KEY,), ROWS, ONE, ONE, ONE),
            ("first", "t", (), ROWS, ONE, KEY), ("first", "t", (KEY,), ROWS, ONE, ONE),
            ("first", "t", (), ROWS, ONE, ("at", KEY, ONE)), ("at", ("first", "t", (), ROWS, ONE, KEY), ONE),
            ("if", ONE, ("at", ONE, KEY), KEY),
        ):
            self.check(is_closed, thing, False)

    def test_not_closed_for_a_variable_anywhere(self):
        self.check(is_closed, X, False)
        for thing in list(forms_with("e", X)) + list(forms_with("extra", (ONE, X))):
            self.check(is_closed, thing, False)
            self.check(is_closed, ("count", "t", (), thing, ONE), False)
            self.check(is_closed, ("at", ONE, ("+", thing, ONE)), False)

    def test_variables(self):
        self.assertEqual(variables_of(ONE), ())
        self.assertEqual(variables_of(("let", 3)), ())
        self.assertEqual(variables_of(("+", ("var", "y"), ("*", X, ("var", "y")))), ("x", "y"))
        self.assertEqual(variables_of(("if", ("var", "b"), ("var", "ab"), ("var", "a"))), ("a", "ab", "b"))
        self.assertEqual(variables_of(("cell", "t", ONE, "a")), ())
        for thing in list(forms_with("e", X)) + list(forms_with("extra", (ONE, X))):
            self.assertEqual(variables_of(thing), ("x",))

    def test_columns(self):
        for thing, wanted in (
            (ONE, ()), (X, ()), (KEY, ()), (("let", 2), ()), (("at", ONE, KEY), ()),
            (("cell", "t", ONE, "a"), (("t", "a"),)),
            (("cell", "t", ("cell", "s", ONE, "b"), "a"), (("s", "b"), ("t", "a"))),
            (("+", ("cell", "t", ONE, "b"), ("cell", "t", TWO, "a")), (("t", "a"), ("t", "b"))),
            (("+", ("cell", "t", ONE, "a"), ("cell", "t", TWO, "a")), (("t", "a"),)),
            (("count", "t", (), ROWS, ONE), (("t", "in"),)),
            (("count", "t", (), ONE, ONE), (("t", "in"),)),
            (("sum", "t", (), ONE, ONE, ONE), (("t", "in"),)),
            (("most", "t", (), ONE, ONE, ONE, ONE), (("t", "in"),)),
            (("first", "t", (), ONE, ONE, ("cell", "z", ONE, "in")), (("t", "in"), ("z", "in"))),
            (("count", "t", (("cell", "a", KEY, "b"),), ("cell", "s", KEY, "in"), ONE),
             (("a", "b"), ("s", "in"), ("t", "in"))),
        ):
            self.assertEqual(columns_of(thing), wanted)
        part = ("cell", "abc", ONE, "d")
        for thing in list(forms_with("e", part)) + list(forms_with("extra", (ONE, part))):
            self.assertIn(("abc", "d"), columns_of(thing))

    def test_columns_against_the_definition(self):
        draw = random.Random(2)
        for expression in EXPRESSIONS + tuple(random_expression(draw, 6) for _ in range(300)):
            wanted = set()
            for part in all_parts(expression):
                if part[0] == "cell":
                    wanted.add((part[1], part[3]))
                if part[0] in ("count", "sum", "most", "first"):
                    wanted.add((part[1], "in"))
            self.assertEqual(columns_of(expression), tuple(sorted(wanted)))
            names = {part[1] for part in all_parts(expression) if part[0] == "var"}
            self.assertEqual(variables_of(expression), tuple(sorted(names)))


class KeyedTest(unittest.TestCase):

    OTHER = ("cell", "u", ("int", 5), "z")

    def check(self, thing, wanted):
        self.assertEqual(keyed(thing, self.OTHER), wanted)

    def test_without_a_free_key_nothing_changes(self):
        for thing in (
            ONE, X, ("let", 3), ("cell", "t", X, "a"), ("at", ONE, KEY), ("count", "t", (), KEY, KEY),
            ("most", "t", (ONE,), KEY, KEY, KEY, X), ("first", "t", (), KEY, ("at", KEY, KEY), ONE),
        ):
            self.check(thing, thing)

    def test_free_keys(self):
        o = self.OTHER
        self.check(KEY, o)
        self.check(("cell", "t", KEY, "a"), ("cell", "t", o, "a"))
        for word in ("+", "-", "*", "<", "="):
            self.check((word, KEY, X), (word, o, X))
            self.check((word, X, KEY), (word, X, o))
            self.check((word, KEY, KEY), (word, o, o))
        self.check(("if", KEY, ONE, KEY), ("if", o, ONE, o))
        self.check(("if", ONE, KEY, TWO), ("if", ONE, o, TWO))

    def test_keys_of_an_at(self):
        o = self.OTHER
        self.check(("at", KEY, KEY), ("at", o, KEY))
        self.check(("at", ("at", KEY, KEY), KEY), ("at", ("at", o, KEY), KEY))
        self.check(("at", ONE, ("at", KEY, KEY)), ("at", ONE, ("at", KEY, KEY)))

    def test_keys_of_aggregates(self):
        o = self.OTHER
        self.check(("count", "t", (KEY, ONE, ("+", KEY, X)), KEY, KEY), ("count", "t", (o, ONE, ("+", o, X)), KEY, KEY))
        self.check(("sum", "t", (KEY,), KEY, KEY, KEY), ("sum", "t", (o,), KEY, KEY, KEY))
        self.check(("most", "t", (KEY, KEY), KEY, KEY, KEY, KEY), ("most", "t", (o, o), KEY, KEY, KEY, o))
        self.check(("first", "t", (KEY,), KEY, KEY, KEY), ("first", "t", (o,), KEY, KEY, o))
        self.check(("first", "t", (), ROWS, ONE, KEY), ("first", "t", (), ROWS, ONE, o))

    def test_within_one_another(self):
        o = self.OTHER
        inner = ("most", "t", (KEY,), KEY, KEY, KEY, KEY)
        done = ("most", "t", (o,), KEY, KEY, KEY, o)
        self.check(("most", "s", (inner,), inner, inner, inner, inner), ("most", "s", (done,), inner, inner, inner, done))
        self.check(("first", "s", (inner,), inner, inner, inner), ("first", "s", (done,), inner, inner, done))
        self.check(("sum", "s", (inner,), inner, inner, inner), ("sum", "s", (done,), inner, inner, inner))
        self.check(("count", "s", (ONE, inner), inner, inner), ("count", "s", (ONE, done), inner, inner))
        self.check(("at", inner, inner), ("at", done, inner))
        self.check(
            ("at", ("int", 3), ("first", "t", (), ROWS, ("<", KEY, ("int", 9)), KEY)),
            ("at", ("int", 3), ("first", "t", (), ROWS, ("<", KEY, ("int", 9)), KEY)),
        )

    def test_other_is_put_in_as_it_is(self):
        for other in (ONE, ("let", 2), ("at", ONE, KEY), ("count", "t", (KEY,), ROWS, KEY)):
            self.assertEqual(keyed(("+", KEY, ("at", KEY, KEY)), other), ("+", other, ("at", other, KEY)))

    def test_against_the_definition(self):

        def by_definition(expression):
            word = expression[0]
            if word == "key":
                return self.OTHER
            if word in ("int", "var", "let"):
                return expression
            if word == "cell":
                return (word, expression[1], by_definition(expression[2]), expression[3])
            if word == "at":
                return (word, by_definition(expression[1]), expression[2])
            if word in ("count", "sum", "most", "first"):
                extra = tuple(by_definition(part) for part in expression[2])
                end = len(expression) - (word in ("most", "first"))
                rest = tuple(by_definition(part) for part in expression[end:])
                return (*expression[:2], extra, *expression[3:end], *rest)
            return (word, *[by_definition(part) for part in expression[1:]])

        draw = random.Random(3)
        for expression in EXPRESSIONS + tuple(random_expression(draw, 6) for _ in range(500)):
            found = keyed(expression, self.OTHER)
            self.assertEqual(found, by_definition(expression))
            self.assertIs(is_expression(found), True)
            self.assertIs(is_closed(found), not variables_of(expression))
            self.assertIs(is_closed(expression), found == expression and not variables_of(expression))


class AllTest(unittest.TestCase):

    QUESTIONS = (parts_of, depth_of, is_plain, is_closed, is_simple, variables_of, columns_of, is_expression)

    def test_arguments_are_not_changed_and_answers_stay(self):
        for expression in EXPRESSIONS:
            before = repr(expression)
            for question in self.QUESTIONS:
                self.assertEqual(question(expression), question(expression))
            self.assertEqual(keyed(expression, TWO), keyed(expression, TWO))
            self.assertEqual(repr(expression), before)
        thing = [("int", 1), ["x"], {"a": [1]}]
        self.assertIs(is_expression(thing), False)
        self.assertIs(is_expression(("+", ONE, thing)), False)
        self.assertEqual(thing, [("int", 1), ["x"], {"a": [1]}])

    def test_nested_deeper_than_calls_can_go(self):
        for wrap, is_aggregate in (
            (lambda e: ("+", e, ONE), False), (lambda e: ("at", e, ONE), False), (lambda e: ("cell", "t", e, "a"), False),
            (lambda e: ("first", "t", (), ROWS, ONE, e), True),
        ):
            thing = deep(20000, wrap, KEY)
            self.assertIs(is_plain(thing), True)
            self.assertIs(is_closed(thing), False)
            self.assertIs(is_simple(thing), not is_aggregate)
            self.assertEqual(variables_of(thing), ())
            self.assertLessEqual(len(columns_of(thing)), 1)
            closed = keyed(thing, TWO)
            self.assertIs(is_expression(closed), True)
            self.assertIs(is_closed(closed), True)
            self.assertEqual(depth_of(closed), depth_of(thing))
            self.assertEqual(variables_of(keyed(thing, X)), ("x",))

    def test_what_keyed_returns_may_be_used_again(self):
        thing = ONE
        for _ in range(3000):
            thing = keyed(("+", KEY, ("at", KEY, KEY)), thing)[2]
        self.assertEqual((is_expression(thing), depth_of(thing)), (True, 3001))
        self.assertEqual((is_closed(thing), is_plain(thing), is_simple(thing)), (True, True, True))


if __name__ == "__main__":
    unittest.main()
