"""Point 13 (with 5 and 16), and lookdone/slots.py."""

import random
import unittest

from lookdone.evaluation import value_of
from lookdone.expressions import is_closed
from lookdone.expressiontexts import read_expression
from lookdone.slots import expression_of, is_slot, may_stand, writers
from tests.randomlogs import random_log
from tests.samples import KEY, L, ONE, OTHER_THINGS, X, deep
from tests.slow import SlowLog
from tests.texts import asked_twice, log_from, moved, query

# A statement of each kind, each at its own position, with positions left out.
LOG = moved(
    log_from("let x = 3\nneed (x < 4)\ntell (x + 1)\nput t[x].a = (x * 2)\neach t if (key < x) put a = (key + x)"),
    0, 2, 3, 5, 8, 10,
)


class IsSlotTest(unittest.TestCase):

    def check(self, log, thing, wanted):
        with self.subTest(thing=repr(thing)[:200]):
            self.assertIs(is_slot(log, thing), wanted)

    def test_all_words_at_all_positions(self):
        slots = {(0, "let"), (2, "need"), (3, "tell"), (5, "key"), (5, "value"), (8, "guard", 7), (8, "value", 7)}
        for position in range(-1, 12):
            for word in ("let", "need", "tell", "key", "value", "guard", "put", "each", "", "Let", "x"):
                self.check(LOG, (position, word), (position, word) in slots)
                self.check(LOG, (position, word, 7), (position, word, 7) in slots)
                self.check(LOG, (position, word, None), False)

    def test_keys(self):
        for key in (0, 1, -1, 7, L, -L):
            self.check(LOG, (8, "guard", key), True)
            self.check(LOG, (8, "value", key), True)
            self.check(LOG, (5, "value", key), False)
        for key in (L + 1, -L - 1, 10 ** 39, True, False, None, "7", (7,), [7], {}):
            self.check(LOG, (8, "guard", key), False)
            self.check(LOG, (8, "value", key), False)

    def test_other_things(self):
        for thing in OTHER_THINGS:
            self.check(LOG, thing, False)
            self.check(LOG, (thing, "let"), thing == 0 and thing is not False)
            self.check(LOG, (0, thing), False)
            self.check(LOG, (0, "let", thing), False)
            self.check(LOG, (thing, "guard", 7), False)
            self.check(LOG, (8, thing, 7), False)
        for thing in ([0, "let"], (0, "let", 7, 7), (False, "let"), (0,), ("let", 0), (0, ["let"]), ((0, "let"),),
                      "0 let"):
            self.check(LOG, thing, False)
        self.check(((0, 5), ((1, ("need", ONE)),)), (True, "need"), False)

    def test_the_same_again(self):
        self.assertIs(asked_twice(self, is_slot, LOG, (8, "guard", 7)), True)
        self.assertIs(asked_twice(self, is_slot, LOG, [8, ["guard"], {7: 7}]), False)
        self.assertIs(asked_twice(self, may_stand, LOG, ("let", 0), 1), True)

    def test_logs_without_statements(self):
        for log in (log_from(), log_from("", ""), ((0, 10000), ())):
            self.check(log, (0, "let"), False)
            self.check(log, (0, "guard", 1), False)


class ExpressionOfTest(unittest.TestCase):

    def check(self, log, slot, wanted):
        with self.subTest(slot=slot):
            self.assertEqual(asked_twice(self, expression_of, log, slot), wanted)

    def test_examples(self):
        self.check(log_from("let x = 3\nput t[x].a = 4"), (1, "key"), ("let", 0))
        log = log_from("each t if (key < 2) put a = (key + 1)")
        rows = ("cell", "t", ("int", 7), "in")
        self.check(log, (0, "guard", 7), ("if", rows, ("<", ("int", 7), ("int", 2)), ("int", 0)))

    def test_each_form(self):
        self.check(LOG, (0, "let"), ("int", 3))
        self.check(LOG, (2, "need"), ("<", ("let", 0), ("int", 4)))
        self.check(LOG, (3, "tell"), ("+", ("let", 0), ONE))
        self.check(LOG, (5, "key"), ("let", 0))
        self.check(LOG, (5, "value"), ("*", ("let", 0), ("int", 2)))
        for key in (0, 7, -L, L):
            rows = ("cell", "t", ("int", key), "in")
            self.check(LOG, (8, "guard", key), ("if", rows, ("<", ("int", key), ("let", 0)), ("int", 0)))
            self.check(LOG, (8, "value", key), ("+", ("int", key), ("let", 0)))

    def test_guards_ask_their_own_table(self):
        log = log_from("each s if t[key].a put in = 1")
        rows = ("cell", "s", ("int", 2), "in")
        self.check(log, (0, "guard", 2), ("if", rows, ("cell", "t", ("int", 2), "a"), ("int", 0)))
        self.check(log, (0, "value", 2), ONE)

    def test_variables_of_the_same_name(self):
        log = log_from("let x = 1\ntell x", "let y = 2\nlet x = y\ntell (x + y)", "let x = 4\nneed (x = x)")
        self.check(log, (1, "tell"), ("let", 0))
        self.check(log, (3, "let"), ("let", 2))
        self.check(log, (4, "tell"), ("+", ("let", 3), ("let", 2)))
        self.check(log, (6, "need"), ("=", ("let", 5), ("let", 5)))

    def test_variables_in_all_parts(self):
        log = log_from("let x = 1\ntell most(t, (x < t[x].a), at(x, (key + x)), if(x, x, 0))")
        rows = ("cell", "t", KEY, "in")
        x = ("let", 0)
        wanted = (
            "most", "t", (), rows, ("<", x, ("cell", "t", x, "a")), ("at", x, ("+", KEY, x)), ("if", x, x, ("int", 0)),
        )
        self.check(log, (1, "tell"), wanted)

    def test_bound_keys_stay(self):
        log = log_from("each t if (at(key, (key < 3)) + key) put a = at((key + 1), at(key, t[key].a))")
        five = ("int", 5)
        rows = ("cell", "t", five, "in")
        condition = ("+", ("at", five, ("<", KEY, ("int", 3))), five)
        self.check(log, (0, "guard", 5), ("if", rows, condition, ("int", 0)))
        self.check(log, (0, "value", 5), ("at", ("+", five, ONE), ("at", KEY, ("cell", "t", KEY, "a"))))

    def test_they_are_closed_and_may_stand(self):
        for seed in range(100):
            log = random_log(random.Random(seed))
            for position, statement in log[1]:
                words = {"put": ("key", "value"), "each": ("guard", "value")}.get(statement[0], (statement[0],))
                for word in words:
                    slot = (position, word, 2) if statement[0] == "each" else (position, word)
                    found = expression_of(log, slot)
                    self.assertIs(is_slot(log, slot), True)
                    self.assertIs(is_closed(found), True)
                    self.assertIs(may_stand(log, found, position), True)

    def test_they_have_the_value_of_the_slot(self):
        for seed in range(60):
            log = random_log(random.Random(seed), 2)
            slow = SlowLog(log)
            for position, statement in log[1]:
                if statement[0] == "each":
                    slot = (position, "guard", 1)
                    rows = ("cell", statement[1], ONE, "in")
                    value = slow.evaluated(("if", rows, ("at", ONE, statement[2]), ("int", 0)), position)[0]
                    self.assertEqual(value_of(log, expression_of(log, slot), position), value)


class MayStandTest(unittest.TestCase):

    def check(self, log, expression, position, wanted):
        with self.subTest(expression=expression, position=position):
            self.assertIs(may_stand(log, expression, position), wanted)

    def test_positions(self):
        for position in range(-2, 14):
            self.check(LOG, read_expression("sum(t, 1, t[key].a)"), position, 0 <= position <= 10)
            self.check(log_from(), ONE, position, position == 0)
            self.check(log_from("", ""), ONE, position, position == 0)
        self.check(((0, 10000), ()), ONE, 10000, True)
        self.check(((0, 10000), ()), ONE, 10001, False)

    def test_lets(self):
        log = log_from("let x = 1\ntell x", "let x = 2\nput t[x].a = 1")
        for position in range(5):
            for place in range(-1, 6):
                if place >= 0:
                    self.check(log, ("let", place), position, place in (0, 2) and place < position)
                    inner = ("count", "t", (("let", place),), ONE, ONE)
                    self.check(log, inner, position, place in (0, 2) and place < position)
                    inner = ("at", ONE, ("sum", "t", (), ONE, ("let", place), ("let", 0)))
                    self.check(log, inner, position, place in (0, 2) and place < position)
        self.check(log, ("let", 10 ** 30), 4, False)

    def test_not_closed(self):
        for thing in (X, KEY, ("+", ONE, X), ("cell", "t", KEY, "a"), ("at", KEY, ONE),
                      ("count", "t", (KEY,), ONE, ONE)):
            for position in (0, 5, 10):
                self.check(LOG, thing, position, False)
        for thing in (("at", ONE, KEY), ("count", "t", (), KEY, KEY), ("first", "t", (ONE,), KEY, ONE, ONE)):
            self.check(LOG, thing, 5, True)

    def test_depth(self):
        for inmost, wanted in ((("let", 0), True), (("let", 2), False), (X, False)):
            self.assertIs(may_stand(LOG, deep(5000, lambda inner: ("+", inner, ONE), inmost), 5), wanted)


class WritersTest(unittest.TestCase):

    LOG = log_from(
        "put t[1].a = 1\nput s[1].a = 1\nput t[1].b = 1\nlet x = t[1].a",
        "each t if 1 put a = 2\neach s if 1 put a = 2\nneed t[1].a\ntell t[1].a\nput t[3].in = 4",
        "put t[2].a = 1\neach t if 0 put in = 1",
    )

    def test_each_column_at_each_position(self):
        wanted = {("t", "a"): (0, 4, 9), ("s", "a"): (1, 5), ("t", "b"): (2,), ("t", "in"): (8, 10), ("s", "in"): ()}
        for (table, column), places in wanted.items():
            for position in range(12):
                with self.subTest(table=table, column=column, position=position):
                    found = asked_twice(self, writers, self.LOG, table, column, position)
                    self.assertEqual(found, tuple(place for place in places if place < position))
        self.assertEqual(writers(self.LOG, "a", "t", 11), ())

    def test_positions_left_out(self):
        log = moved(log_from("put t[1].a = 1\nneed 1\nput t[1].a = 2"), 3, 4, 9, 20)
        found = [writers(log, "t", "a", position) for position in range(21)]
        self.assertEqual(found, [()] * 4 + [(3,)] * 6 + [(3, 9)] * 11)

    def test_no_log(self):
        self.assertEqual(writers(log_from(), "t", "a", 0), ())

    def test_values_change_only_there(self):
        log = self.LOG
        text = query("sum(t, 1, t[key].a)")
        for position in range(1, 12):
            if position - 1 not in (0, 4, 9, 8, 10):
                self.assertEqual(value_of(log, text, position), value_of(log, text, position - 1))


if __name__ == "__main__":
    unittest.main()
