"""Point 24: lookdone/leading.py but for cuts."""

import random
import unittest

from lookdone.errors import TooLarge
from lookdone.evaluation import needed, value_of
from lookdone.expressions import depth_of, is_closed, is_expression, parts_of
from lookdone.leading import led, led_back, steps_back
from lookdone.slots import may_stand
from lookdone.slotspans import span_of
from lookdone.statementtexts import read_transaction
from tests.randomlogs import lets_below, random_log, free_expression, standing
from tests.samples import KEY, ONE, TWO, deep
from tests.slow import SlowLog
from tests.slowleading import size, slow_led, slow_way
from tests.texts import asked_twice, chain, log_from, moved, query

ZERO = ("int", 0)
T1A = ("cell", "t", ONE, "a")


def rows(table):
    return ("cell", table, KEY, "in")


def behind_put(e, f, table="t", column="a"):
    return ("if", ("=", KEY, e), f, ("cell", table, KEY, column))


def behind_each(p, f, table="t", column="a"):
    return ("if", ("if", rows(table), p, ZERO), f, ("cell", table, KEY, column))


class LedTest(unittest.TestCase):

    def check(self, log, expression, position, wanted):
        with self.subTest(log=log, expression=expression, position=position):
            found = asked_twice(self, led, log, expression, position)
            self.assertEqual(found, wanted)
            self.assertEqual(slow_led(log, expression, position), wanted)
            self.assertIs(is_expression(found), True)
            self.assertEqual(asked_twice(self, led_back, log, expression, position, position - 1), wanted)
            self.assertEqual(next(steps_back(log, expression, position)), wanted)

    def stays(self, log, expression, position):
        self.check(log, expression, position, expression)

    def test_examples(self):
        self.check(log_from("put t[2].a = 5"), ("cell", "t", ("int", 3), "a"), 1,
                   ("at", ("int", 3), ("if", ("=", KEY, TWO), ("int", 5), ("cell", "t", KEY, "a"))))
        self.check(
            log_from("put t[2].in = 1"), query("count(t, 1)"), 1,
            ("count", "t", (TWO,), ("at", KEY, ("if", ("=", KEY, TWO), ONE, ("cell", "t", KEY, "in"))), ONE),
        )
        log = log_from("put t[2].a = 5\nneed 1")
        self.assertEqual(list(steps_back(log, ("cell", "t", ("int", 3), "b"), 2)), [("cell", "t", ("int", 3), "b")] * 2)

    def test_what_stays(self):
        every = "let x = t[1].a\nput t[x].a = x\neach t if key put in = x\nneed x\ntell t[1].in"
        log = log_from(every)
        for position in range(1, 6):
            for expression in (ONE, KEY, ("+", KEY, ONE), ("cell", "s", ONE, "a"), ("cell", "t", KEY, "b")):
                self.stays(log, expression, position)
        for position in (4, 5):
            for expression in (T1A, ("let", 0), query("count(t, t[key].in)"), ("at", T1A, ("cell", "t", KEY, "a"))):
                self.stays(log, expression, position)

    def test_positions_without_a_statement(self):
        log = moved(log_from("put t[1].a = 2"), 3, 6)
        for position in (1, 2, 3, 5, 6):
            self.stays(log, T1A, position)
        self.check(log, T1A, 4, ("at", ONE, behind_put(ONE, TWO)))
        self.assertEqual(len(list(steps_back(log, T1A, 6))), 6)

    def test_lets(self):
        log = log_from("let x = count(s, 1)\nlet y = (x + x)\nlet z = 5\ntell z", "let x = t[1].a\nlet y = x")
        self.check(log, ("let", 1), 2, ("+", ("let", 0), ("let", 0)))
        self.check(log, ("let", 0), 1, query("count(s, 1)"))
        self.check(log, ("let", 2), 3, ("int", 5))
        self.check(log, ("let", 4), 5, T1A)
        self.check(log, ("let", 5), 6, ("let", 4))
        self.check(log, ("if", ("let", 1), ("cell", "t", ("let", 0), "a"), ("at", ("let", 2), KEY)), 3,
                   ("if", ("let", 1), ("cell", "t", ("let", 0), "a"), ("at", ("int", 5), KEY)))
        for position, place in ((1, 2), (2, 0), (2, 2), (4, 2), (6, 1)):
            self.stays(log, ("let", place), position)

    def test_the_same_name_in_several_transactions(self):
        log = log_from("let x = 1\nput t[x].a = (x + 1)", "let x = 2\nput t[x].a = (x + 2)")
        self.check(log, T1A, 4, ("at", ONE, behind_put(("let", 2), ("+", ("let", 2), TWO))))
        self.check(log, T1A, 2, ("at", ONE, behind_put(("let", 0), ("+", ("let", 0), ONE))))
        self.assertEqual(led_back(log, T1A, 4, 2), ("at", ONE, behind_put(TWO, ("+", TWO, TWO))))

    def test_cells_behind_a_put(self):
        log = log_from("let x = count(s, 1)\nput t[(x + 1)].a = t[x].a")
        written = behind_put(("+", ("let", 0), ONE), ("cell", "t", ("let", 0), "a"))
        self.check(log, T1A, 2, ("at", ONE, written))
        self.check(log, ("cell", "t", T1A, "a"), 2, ("at", ("at", ONE, written), written))
        self.check(log, ("cell", "s", T1A, "b"), 2, ("cell", "s", ("at", ONE, written), "b"))
        self.check(log, ("cell", "t", KEY, "a"), 2, ("at", KEY, written))
        self.check(log, ("at", T1A, ("cell", "t", KEY, "a")), 2, ("at", ("at", ONE, written), ("at", KEY, written)))
        for word in ("+", "-", "*", "<", "="):
            self.check(log, (word, T1A, ("let", 0)), 2, (word, ("at", ONE, written), ("let", 0)))
        self.check(log, ("if", T1A, ONE, T1A), 2, ("if", ("at", ONE, written), ONE, ("at", ONE, written)))

    def test_cells_behind_an_each(self):
        log = log_from("let x = count(s, 1)\neach t if (key < x) put a = (t[key].b + at(key, key))")
        written = behind_each(("<", KEY, ("let", 0)), query("(t[key].b + at(key, key))"))
        self.check(log, T1A, 2, ("at", ONE, written))
        self.check(log, ("cell", "t", ("cell", "t", TWO, "a"), "a"), 2, ("at", ("at", TWO, written), written))
        self.stays(log, ("cell", "t", ONE, "in"), 2)
        self.stays(log, ("cell", "s", ONE, "a"), 2)

    def test_tables_that_are_called_like_columns(self):
        log = log_from("put a[1].t = 2\nput in[3].in = 4\neach in if 1 put a = key")
        self.stays(log, T1A, 1)
        self.check(log, ("cell", "a", ONE, "t"), 1, ("at", ONE, behind_put(ONE, TWO, "a", "t")))
        self.check(log, ("cell", "in", ONE, "in"), 2,
                   ("at", ONE, behind_put(("int", 3), ("int", 4), "in", "in")))
        self.check(log, ("cell", "in", ONE, "a"), 3, ("at", ONE, behind_each(ONE, KEY, "in", "a")))
        self.stays(log, ("cell", "in", ONE, "in"), 3)
        self.stays(log, query("count(a, 1)"), 2)

    def test_aggregates_behind_a_put_to_in(self):
        log = log_from("let x = count(s, 1)\nput t[x].in = (x - 1)")
        x = ("let", 0)
        written = behind_put(x, ("-", x, ONE), "t", "in")
        there = ("at", KEY, written)
        self.check(log, query("sum(t, t[key].in, t[1].in)"), 2,
                   ("sum", "t", (x,), there, there, ("at", ONE, written)))
        self.check(log, query("most(t, key, (key + 1), t[2].in)"), 2,
                   ("most", "t", (x,), there, KEY, ("+", KEY, ONE), ("at", TWO, written)))
        self.check(log, query("first(t, t[key].b, 7)"), 2, ("first", "t", (x,), there, query("t[key].b"), ("int", 7)))
        self.stays(log, query("count(s, 1)"), 2)
        self.check(log, query("count(s, t[key].in)"), 2, ("count", "s", (), rows("s"), there))

    def test_aggregates_with_extra_keys(self):
        log = log_from("put t[5].in = 1\nput t[6].b = 2\nput s[7].in = 3")
        in_t, in_s = behind_put(("int", 5), ONE, "t", "in"), behind_put(("int", 7), ("int", 3), "s", "in")
        b_t = behind_put(("int", 6), TWO, "t", "b")
        inner = ("count", "s", (ONE,), rows("s"), ONE)
        outer = ("first", "t", (KEY, inner, ("cell", "t", ONE, "in")), rows("t"), ("cell", "t", KEY, "b"), inner)
        led_inner = ("count", "s", (ONE, ("int", 7)), ("at", KEY, in_s), ONE)
        self.check(log, outer, 3, ("first", "t", (KEY, led_inner, ("cell", "t", ONE, "in")), rows("t"),
                                   ("cell", "t", KEY, "b"), led_inner))
        self.check(log, outer, 2, (*outer[:4], ("at", KEY, b_t), inner))
        self.check(log, outer, 1, ("first", "t", (KEY, inner, ("at", ONE, in_t), ("int", 5)), ("at", KEY, in_t),
                                   ("cell", "t", KEY, "b"), inner))
        # The X of an aggregate may be anything; the key is added all the same.
        self.check(log, ("count", "t", (), ONE, ONE), 1, ("count", "t", (("int", 5),), ONE, ONE))

    def test_aggregates_behind_an_each_on_in(self):
        log = log_from("each t if (key < 3) put in = 0")
        there = ("at", KEY, behind_each(("<", KEY, ("int", 3)), ZERO, "t", "in"))
        self.check(log, query("sum(t, 1, key)"), 1, ("sum", "t", (), there, ONE, KEY))
        self.check(log, ("count", "t", (ONE,), ONE, rows("t")), 1, ("count", "t", (ONE,), ONE, there))

    def test_lets_in_aggregates(self):
        log = log_from("let x = t[1].a")
        self.check(log, ("sum", "t", (("let", 0),), ("let", 0), ("let", 0), ("let", 0)), 1,
                   ("sum", "t", (T1A,), T1A, T1A, T1A))
        self.check(log, ("at", ("let", 0), ("let", 0)), 1, ("at", T1A, T1A))

    def test_held_against_the_slow_one(self):
        for seed in range(300):
            draw = random.Random(seed)
            log = random_log(draw)
            position = draw.randint(1, max(1, log[0][-1]))
            expression = free_expression(draw, 4, lets_below(log, position), draw.random() < 0.5)
            self.check(log, expression, position, slow_led(log, expression, position))


class WayTest(unittest.TestCase):

    def test_the_position_itself(self):
        log = log_from("put t[1].a = 1")
        for expression in (T1A, KEY, deep(200, lambda inner: ("+", inner, ONE))):
            self.assertEqual(led_back(log, expression, 1, 1), expression)
            self.assertEqual(led_back(log, expression, 0, 0), expression)
            self.assertEqual(list(steps_back(log, expression, 0)), [])

    def test_step_by_step(self):
        for seed in range(300):
            draw = random.Random(seed)
            log = random_log(draw)
            expression, position = standing(draw, log, 3)
            way = slow_way(log, expression, position, 0)
            steps = steps_back(log, expression, position)
            for number, wanted in enumerate(way):
                self.assertEqual(led_back(log, expression, position, position - number), wanted)
                if number:
                    self.assertEqual(next(steps), wanted)
            if len(way) <= position:
                with self.assertRaises(TooLarge):
                    next(steps)
                for cut in {0, position - len(way)}:
                    with self.assertRaises(TooLarge):
                        led_back(log, expression, position, cut)
            self.assertEqual(list(steps), [])

    def test_values_spans_and_needs_stay(self):
        """The value and the span stay the same; of what is needed, just what is below the cut."""
        seen = 0
        for seed in range(300):
            draw = random.Random(1000 + seed)
            log = random_log(draw)
            expression, position = standing(draw, log, 3)
            value, span = value_of(log, expression, position), span_of(log, expression, position)
            slots = needed(log, expression, position)
            for number, back in enumerate(slow_way(log, expression, position, 0)):
                cut = position - number
                with self.subTest(log=log, expression=expression, position=position, cut=cut):
                    self.assertIs(may_stand(log, back, cut), True)
                    self.assertEqual((value_of(log, back, cut), span_of(log, back, cut)), (value, span))
                    below = tuple(slot for slot in slots if slot[0] < cut)
                    self.assertEqual(needed(log, back, cut), below)
                    self.assertEqual(SlowLog(log).span(back, cut), span)
                    seen += 0 < len(below) < len(slots)
        self.assertGreater(seen, 100)

    def test_asked_again(self):
        log = log_from("put t[1].a = count(s, 1)\nput t[2].a = (t[1].a + 1)")
        wanted = [led_back(log, query("t[2].a"), 2, cut) for cut in (1, 0)]
        for _ in range(2):
            self.assertEqual(list(steps_back(log, query("t[2].a"), 2)), wanted)
        self.assertEqual(asked_twice(self, led_back, log, query("t[2].a"), 2, 0), wanted[1])

    def test_closed_ones_stay_closed(self):
        log = log_from("let x = count(s, 1)\neach t if (key = x) put a = (key + x)\nput t[x].in = 1")
        for expression in steps_back(log, query("sum(t, t[key].a, t[x].in)", x=0), 3):
            self.assertIs(is_closed(expression), True)


class TooLargeTest(unittest.TestCase):
    """A let takes the place of one part, so it makes an expression exactly as large as is wished."""

    def sums(self, many):
        """An expression with so many parts, and as little depth as possible."""
        if many % 2 == 0:
            return ("cell", "s", self.sums(many - 1), "b")
        level = [ONE] * ((many + 1) // 2)
        while len(level) > 1:
            pairs = [("+", *level[start:start + 2]) for start in range(0, len(level) - 1, 2)]
            level = pairs + level[len(level) // 2 * 2:]
        self.assertEqual(size(level[0])[0], many)
        return level[0]

    def test_parts(self):
        log = log_from("tell 1", "let x = if(1, 2, 3)")
        for many, is_small in ((1996, True), (1997, True), (1998, False), (1999, False), (2000, False)):
            # The let has one part, and becomes one of four.
            expression = ("+", ("let", 1), self.sums(many - 2))
            self.assertEqual(parts_of(expression), many)
            with self.subTest(many=many):
                if is_small:
                    self.assertEqual(parts_of(led(log, expression, 2)), many + 3)
                    self.assertEqual(parts_of(led_back(log, expression, 2, 0)), many + 3)
                    self.assertEqual(len(list(steps_back(log, expression, 2))), 2)
                else:
                    self.too_large(log, expression, 2, 0)

    def test_at_the_second_step(self):
        log = log_from("let x = if(1, 2, 3)\nlet y = (1 + 2)")
        for many, is_small in ((1994, True), (1995, True), (1996, False), (1998, False)):
            # The let at 1 makes two more parts of it, that at 0 three.
            expression = ("-", ("let", 1), ("-", ("let", 0), self.sums(many - 4)))
            self.assertEqual(parts_of(expression), many)
            with self.subTest(many=many):
                if is_small:
                    self.assertEqual(parts_of(led_back(log, expression, 2, 0)), many + 5)
                else:
                    self.too_large(log, expression, 2, 1)

    def too_large(self, log, expression, position, many):
        """TooLarge is raised with the next one after so many steps."""
        steps = steps_back(log, expression, position)
        for number in range(many):
            self.assertEqual(led_back(log, expression, position, position - number - 1), next(steps))
        with self.assertRaises(TooLarge):
            next(steps)
        with self.assertRaises(TooLarge):
            led_back(log, expression, position, position - many - 1)
        with self.assertRaises(TooLarge):
            led_back(log, expression, position, 0)

    def test_depth(self):
        log = log_from("let x = 7\nlet y = (1 + 1)\nlet z = (y + y)")
        for depth, many in ((98, 3), (99, 3), (100, 1)):
            expression = deep(depth - 2, lambda inner: ("+", ONE, inner), ("+", ONE, ("let", 1)))
            self.assertEqual(depth_of(expression), depth)
            with self.subTest(depth=depth):
                if many == 3:
                    self.assertEqual(depth_of(led_back(log, expression, 3, 0)), depth + 1)
                    self.assertEqual(len(list(steps_back(log, expression, 3))), 3)
                else:
                    self.too_large(log, expression, 3, many)
        for depth, many in ((98, 3), (99, 1), (100, 0)):
            expression = deep(depth - 1, lambda inner: ("-", inner, ONE), ("let", 2))
            with self.subTest(depth=depth):
                if many == 3:
                    self.assertEqual(depth_of(led_back(log, expression, 3, 0)), 100)
                else:
                    self.too_large(log, expression, 3, many)

    def test_steps_that_change_nothing(self):
        """The result of a step is too large also if it is what was there before."""
        log = log_from("tell 1\nput s[1].a = 1")
        for expression in (deep(100, lambda inner: ("+", ONE, inner)), ("+", self.sums(2001), ONE)):
            for position in (1, 2):
                with self.assertRaises(TooLarge):
                    led(log, expression, position)
                self.assertEqual(led_back(log, expression, position, position), expression)
        for expression in (deep(99, lambda inner: ("+", ONE, inner)), self.sums(1999)):
            self.assertEqual(led_back(log, expression, 2, 0), expression)

    def test_parts_that_a_text_does_not_show(self):
        """X and extra count, too."""
        log = log_from("let x = count(t, 1)")
        wide = ("count", "t", (self.sums(1991),), ("if", ("let", 0), ONE, ONE), ONE)
        self.assertEqual(parts_of(wide), 1997)
        self.assertEqual(parts_of(led(log, wide, 1)), 2000)
        wide = ("count", "t", (ONE, ("+", ONE, self.sums(1989))), ("*", ONE, ("let", 0)), ONE)
        self.assertEqual(parts_of(wide), 1997)
        self.assertEqual(parts_of(led(log, wide, 1)), 2000)
        wide = ("count", "t", (ONE, ONE, self.sums(1991)), ("*", ONE, ("let", 0)), ONE)
        self.assertEqual(parts_of(wide), 1998)
        self.too_large(log, wide, 1, 0)

    def test_chains(self):
        log = chain("put t[1].a = count(s, 1)", *["put t[1].a = (t[1].a + 1)"] * 399)
        way = slow_way(log, T1A, 400, 0)
        self.too_large(log, T1A, 400, len(way) - 1)
        log = log_from(*["\n".join([f"put t[1].a = count(s, {number})"] * 40) for number in range(10)])
        way = slow_way(log, T1A, 400, 0)
        self.assertLess(len(way), 100)
        self.too_large(log, T1A, 400, len(way) - 1)

    def test_a_long_way(self):
        """Positions without a statement, and statements that do not matter."""
        entries = tuple((place, ("put", "s", ONE, "a", ("cell", "s", ONE, "a"))) for place in range(0, 10000, 25))
        log = ((0, 10000), entries)
        wide = ("+", self.sums(1997), T1A)
        self.assertEqual(led_back(log, wide, 10000, 0), wide)
        self.assertEqual(sum(1 for _ in steps_back(log, wide, 10000)), 10000)


class FormsTest(unittest.TestCase):

    def test_each_form_of_statement_and_expression(self):
        """Every form of statement against every form of expression, at both ends."""
        statements = read_transaction(
            "let x = t[1].a\nput t[x].a = (x + 1)\nput t[2].in = x\neach t if (key < x) put a = key\n"
            "each t if t[key].a put in = x\nneed x\ntell t[x].a"
        )
        log = ((0, 7), tuple(enumerate(statements)))
        forms = (
            ONE, KEY, ("let", 0), T1A, ("cell", "t", ("let", 0), "in"), *[(word, T1A, KEY) for word in "+-*<="],
            ("if", T1A, ("let", 0), ("cell", "t", KEY, "in")), ("at", T1A, ("cell", "t", KEY, "a")),
            ("count", "t", (), rows("t"), T1A), ("sum", "t", (KEY, T1A), rows("t"), rows("s"), rows("t")),
            ("most", "t", (), T1A, ("let", 0), KEY, KEY), ("first", "t", (("let", 0),), ("let", 0), KEY, T1A),
            ("first", "s", (T1A,), ("let", 0), KEY, T1A),
        )
        for expression in forms:
            for position in range(2, 8):
                with self.subTest(expression=expression, position=position):
                    self.assertEqual(led(log, expression, position), slow_led(log, expression, position))


if __name__ == "__main__":
    unittest.main()
