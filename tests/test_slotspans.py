"""Points 14, 15 and 16, and lookdone/slotspans.py."""

import random
import unittest

from lookdone.evaluation import value_of
from lookdone.slots import expression_of
from lookdone.slotspans import slot_span, span_of
from tests.randomlogs import random_log, standing
from tests.samples import KEY, L, ONE
from tests.slow import SlowLog
from tests.texts import asked_twice, log_from, moved, query

# x is from 0 to L, y is 3 or 4, z is from -2 to 5, w is 9.
LETS = "let x = count(s, 1)\nlet y = if((x < 5), 3, 4)\nlet z = if(x, -2, 5)\nlet w = 9"
VARIABLES = {"x": 0, "y": 1, "z": 2, "w": 3}

ALL = (-L, L)


def log_with(*lines):
    """A log that begins with the lets."""
    return log_from("\n".join([LETS, *lines]))


class SpanTest(unittest.TestCase):

    def check(self, log, text, wanted, position=None):
        """The span of the expression at the position, or behind all statements."""
        position = log[0][-1] if position is None else position
        expression = query(text, **VARIABLES) if isinstance(text, str) else text
        with self.subTest(text=text, position=position):
            found = asked_twice(self, span_of, log, expression, position)
            self.assertEqual(found, wanted)
            self.assertEqual([type(found), type(found[0]), type(found[1])], [tuple, int, int])
            low, high = found
            self.assertTrue(low <= value_of(log, expression, position) <= high)

    def check_all(self, log, wanted):
        for text, span in wanted:
            self.check(log, text, span)


class FormsTest(SpanTest):

    def test_example(self):
        log = log_from("let x = count(s, 1)\nput t[if((x < 5), 3, 4)].a = 6")
        self.check_all(log, (("t[3].a", (0, 6)), ("t[5].a", (0, 0))))

    def test_leaves(self):
        self.check_all(log_with(), (
            ("7", (7, 7)), ("-7", (-7, -7)), (("int", L), (L, L)), ("x", (0, L)), ("y", (3, 4)), ("z", (-2, 5)),
            ("w", (9, 9)),
        ))

    def test_operations(self):
        self.check_all(log_with(), (
            ("(y + z)", (1, 9)), ("(y - z)", (-2, 6)), ("(z - y)", (-6, 2)), ("(y * z)", (-8, 20)),
            ("(z * z)", (-10, 25)),
            ("(z * -1)", (-5, 2)), ("(y + w)", (12, 13)), ("(x + x)", (0, L)), ("(x * x)", (0, L)),
            ("(0 - (x + x))", (-L, 0)),
            ("(x - x)", (-L, L)), ("(x * 0)", (0, 0)),
            ("(y < z)", (0, 1)), ("(y < 3)", (0, 0)), ("(y < 4)", (0, 1)), ("(y < 5)", (1, 1)), ("(2 < y)", (1, 1)),
            ("(3 < y)", (0, 1)), ("(4 < y)", (0, 0)), ("(y < y)", (0, 1)),
            ("(y = 3)", (0, 1)), ("(y = 4)", (0, 1)), ("(y = 5)", (0, 0)), ("(y = z)", (0, 1)), ("(y = y)", (0, 1)),
            ("(w = 9)", (1, 1)), ("(w = 8)", (0, 0)), ("(x = -1)", (0, 0)), ("(y = x)", (0, 1)),
        ))

    def test_aggregates(self):
        for lines in ((), ("put t[1].in = 1",), ("put t[1].in = 1", "put t[1].a = 3")):
            self.check_all(log_with(*lines), (
                ("count(t, 1)", (0, L)), ("count(t, 0)", (0, L)), ("sum(t, 1, 1)", ALL), ("sum(t, 0, 0)", ALL),
                ("most(t, 1, 3, 3)", ALL), ("first(t, 1, 3)", ALL), ("(0 - count(t, 1))", (-L, 0)),
            ))
        self.check(log_with(), ("count", "t", (ONE,), ("int", 0), ONE), (0, L))
        self.check(log_with(), ("first", "t", (ONE,), ONE, ONE, ONE), ALL)

    def test_if(self):
        self.check_all(log_with(), (
            ("if(y, 1, 2)", (1, 1)), ("if((0 - y), 1, 2)", (1, 1)), ("if((y < 3), 1, 2)", (2, 2)),
            ("if(0, 1, 2)", (2, 2)),
            ("if(z, 1, 2)", (1, 2)), ("if(z, 2, 1)", (1, 2)), ("if(z, 3, 3)", (3, 3)), ("if(x, y, w)", (3, 9)),
            ("if(x, w, y)", (3, 9)), ("if(x, z, y)", (-2, 5)), ("if(if(x, 1, 0), 1, -1)", (-1, 1)),
        ))

    def test_at(self):
        self.check_all(log_with("put t[3].a = 6"), (
            ("at(3, (key + y))", (6, 7)), ("at(w, key)", (9, 9)), ("at(y, 1)", ALL), ("at(y, key)", ALL),
            ("at(7, at((key + 1), (key * 2)))", (16, 16)), ("at(7, (at(2, key) + key))", (9, 9)),
            ("at(3, t[key].a)", (6, 6)),
            ("at(7, at(y, key))", ALL), ("at(4, t[key].a)", (0, 0)), ("at(if((y < 9), 3, x), t[key].a)", (6, 6)),
        ))

    def test_cells_with_several_keys(self):
        self.check_all(log_with("put t[3].a = 6"), (
            ("t[y].a", ALL), ("t[y].b", ALL), ("q[y].q", ALL), ("t[x].a", ALL), ("t[3].a", (6, 6)), ("t[4].a", (0, 0)),
            ("t[w].a", (0, 0)), ("t[(w - 6)].a", (6, 6)), ("q[3].a", (0, 0)),
        ))

    def test_extra_and_bound_keys(self):
        for expression in (
            ("count", "t", (("let", 0), ("let", 1)), KEY, ("=", KEY, ONE)),
            ("at", ("int", 3), ("count", "t", (KEY,), ONE, ONE)),
        ):
            self.check(log_with(), expression, (0, L))


class PutsTest(SpanTest):

    def test_the_key_surely_is(self):
        self.check_all(log_with("put t[3].a = z"), (("t[3].a", (-2, 5)), ("t[4].a", (0, 0))))
        self.check_all(log_with("put t[(w - 6)].a = 1", "put t[3].a = 2"), (("t[3].a", (2, 2)),))

    def test_the_key_may_be(self):
        self.check_all(log_with("put t[y].a = 6"), (("t[3].a", (0, 6)), ("t[4].a", (0, 6)), ("t[5].a", (0, 0))))
        self.check_all(log_with("put t[3].a = 9", "put t[y].a = 6"), (("t[3].a", (6, 9)), ("t[4].a", (0, 6))))
        self.check_all(log_with("put t[3].a = 9", "put t[y].a = 9"), (("t[3].a", (9, 9)), ("t[4].a", (0, 9))))
        self.check_all(log_with("put t[y].a = 9", "put t[3].a = 6"), (("t[3].a", (6, 6)), ("t[4].a", (0, 9))))
        self.check_all(log_with("put t[x].a = -1"), (("t[-1].a", (0, 0)), ("t[0].a", (-1, 0)), ((
            "cell", "t", ("int", L), "a"), (-1, 0))))

    def test_what_is_put_reads_what_is_below(self):
        log = log_with("put t[3].a = y", "put t[3].a = (t[3].a + 1)", "put t[3].a = (t[3].a + t[3].a)")
        self.check(log, "t[3].a", (8, 10))
        self.check(log, "t[3].a", (4, 5), 6)
        self.check(log, "t[3].a", (3, 4), 5)
        self.check(log, "t[3].a", (0, 0), 4)

    def test_keys_that_hang_on_cells(self):
        log = log_with("put t[1].a = y", "put t[t[1].a].a = 8", "put t[t[4].a].a = 2")
        self.check_all(log, (
            ("t[1].a", (2, 4)), ("t[3].a", (0, 8)), ("t[4].a", (0, 8)), ("t[0].a", (0, 2)), ("t[8].a", (0, 2)),
            ("t[9].a", (0, 0)),
        ))


class EachesTest(SpanTest):

    def test_absent_rows(self):
        self.check_all(log_with("each t if 1 put a = 7"), (("t[1].a", (0, 0)), ("t[0].a", (0, 0))))
        self.check_all(log_with("put t[1].a = 2", "each t if 1 put a = 7"), (("t[1].a", (2, 2)),))
        self.check_all(log_with("put t[1].in = 0", "put t[1].a = 2", "each t if 1 put a = 7"), (("t[1].a", (2, 2)),))

    def test_present_rows(self):
        log = log_with("put t[1].in = -3", "put t[1].a = 2", "each t if (key < y) put a = (key + z)")
        self.check_all(log, (("t[1].a", (-1, 6)), ("t[1].in", (-3, -3)), ("t[2].a", (0, 0))))
        log = log_with("put t[1].in = y", "put t[1].a = 2", "each t if 1 put a = 7", "each t if 0 put a = 8")
        self.check_all(log, (("t[1].a", (7, 7)),))

    def test_perhaps_present_rows(self):
        log = log_with("put t[1].in = z", "put t[1].a = 2", "each t if 1 put a = 7")
        self.check_all(log, (("t[1].a", (2, 7)), ("t[1].in", (-2, 5)), ("t[2].a", (0, 0))))
        log = log_with("put t[y].in = 1", "put t[3].a = 2", "each t if 1 put a = 7")
        self.check_all(log, (("t[3].a", (2, 7)), ("t[4].a", (0, 7)), ("t[5].a", (0, 0))))

    def test_perhaps_wanted_rows(self):
        log = log_with("put t[1].in = 1", "put t[3].in = 1", "put t[4].in = 1",
                       "each t if (key < y) put a = (key * 10)")
        self.check_all(log, (("t[1].a", (10, 10)), ("t[3].a", (0, 30)), ("t[4].a", (0, 0))))

    def test_the_condition_of_a_row_that_is_perhaps_present_does_not_matter_alone(self):
        log = log_with("put t[1].in = z", "each t if -5 put a = 7", "each t if z put b = 7")
        self.check_all(log, (("t[1].a", (0, 7)), ("t[1].b", (0, 7))))
        # The guard's span is that of an if: the hull of -5 and 0.
        with self.subTest():
            self.assertEqual(slot_span(log, (5, "guard", 1)), (-5, 0))
            self.assertEqual(slot_span(log, (6, "guard", 1)), (-2, 5))

    def test_in_itself(self):
        log = log_with("put t[1].in = 1", "put t[2].in = z", "each t if 1 put in = 0", "each t if 1 put a = 9")
        self.check_all(log, (("t[1].in", (0, 0)), ("t[2].in", (-2, 5)), ("t[1].a", (0, 0)), ("t[2].a", (0, 9))))

    def test_rows_of_other_tables_do_not_matter(self):
        log = log_with("put s[1].in = 1", "each t if 1 put a = 7", "each s if 1 put a = 7")
        self.check_all(log, (("t[1].a", (0, 0)), ("s[1].a", (7, 7))))


class WritersTest(SpanTest):

    def test_the_last_writer_at_each_position(self):
        log = log_from(
            "put t[1].in = 1\nput t[1].a = 2\nput t[1].b = 3\nput s[1].a = 4\nneed t[1].a",
            "tell t[1].a\neach t if 1 put a = 5\nput t[2].a = 6\neach s if 1 put a = 7\nput t[1].a = 8",
        )
        wanted = {0: 0, 2: 2, 7: 5, 10: 8}
        for position in range(11):
            value = wanted[max(place for place in wanted if place <= position)]
            self.check(log, "t[1].a", (value, value), position)
            self.check(log, "t[1].b", (0, 0) if position < 3 else (3, 3), position)
            self.check(log, "s[1].a", (0, 0) if position < 4 else (4, 4), position)
            self.check(log, "t[2].a", (0, 0) if position < 8 else (6, 6), position)

    def test_positions_left_out(self):
        log = moved(log_from("put t[1].a = 1\nneed 1\nput t[1].a = 2"), 3, 4, 9, 20)
        for position in range(21):
            value = 0 if position < 4 else 1 if position < 10 else 2
            self.check(log, "t[1].a", (value, value), position)

    def test_far_positions(self):
        log = ((0, 10000), ((9999, ("put", "t", ONE, "a", ONE)),))
        self.check(log, "t[1].a", (0, 0), 9999)
        self.check(log, "t[1].a", (1, 1), 10000)

    def test_log_without_statements(self):
        self.check(log_from(), "t[1].a", (0, 0), 0)
        self.check(log_from("", ""), "count(t, 1)", (0, L), 0)


class SlotsTest(unittest.TestCase):

    def check(self, log, slot, wanted):
        with self.subTest(slot=slot):
            self.assertEqual(asked_twice(self, slot_span, log, slot), wanted)
            self.assertEqual(span_of(log, expression_of(log, slot), slot[0]), wanted)

    def test_each_form(self):
        log = log_with("put t[3].in = x", "each t if (key < y) put a = (key + y)", "need z", "tell (y * 2)")
        for slot, wanted in (
            ((0, "let"), (0, L)), ((1, "let"), (3, 4)), ((2, "let"), (-2, 5)), ((3, "let"), (9, 9)),
            ((4, "key"), (3, 3)),
            ((4, "value"), (0, L)), ((5, "guard", 3), (0, 1)), ((5, "guard", 2), (0, 0)), ((5, "value", 3), (6, 7)),
            ((5, "value", L), (L, L)), ((5, "value", -L), (-L + 3, -L + 4)), ((6, "need"), (-2, 5)),
            ((7, "tell"), (6, 8)),
        ):
            self.check(log, slot, wanted)

    def test_where_the_expression_stands(self):
        log = log_from("put t[1].a = 1\nlet x = t[1].a\nput t[1].a = 2\nlet y = t[1].a", "let x = t[1].a\ntell x")
        for slot, wanted in (((1, "let"), (1, 1)), ((3, "let"), (2, 2)), ((4, "let"), (2, 2)), ((5, "tell"), (2, 2))):
            self.check(log, slot, wanted)


class RandomTest(unittest.TestCase):

    def test_held_against_the_slow_one(self):
        wide = 0
        for seed in range(400):
            draw = random.Random(seed)
            log = random_log(draw)
            slow = SlowLog(log)
            for _ in range(3):
                expression, position = standing(draw, log)
                wanted = slow.span(expression, position)
                with self.subTest(log=log, expression=expression, position=position):
                    self.assertEqual(span_of(log, expression, position), wanted)
                    wide += wanted[0] != wanted[1]
        self.assertGreater(wide, 300)

    def test_the_value_lies_in_it(self):
        for seed in range(300):
            draw = random.Random(seed)
            log = random_log(draw)
            expression, position = standing(draw, log)
            low, high = span_of(log, expression, position)
            self.assertTrue(low <= value_of(log, expression, position) <= high)


if __name__ == "__main__":
    unittest.main()
