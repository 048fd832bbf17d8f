"""Points 17, 18 and 19 (with 15 and 16), and lookdone/evaluation.py."""

import random
import unittest

from lookdone.errors import Refused
from lookdone.evaluation import evaluated, needed, value_of
from lookdone.logs import log_of
from lookdone.plain import PlainStore
from lookdone.slots import expression_of
from lookdone.slotspans import slot_span
from tests.randomlogs import expression as random_expression
from tests.randomlogs import random_log, rows, standing, transaction
from tests.samples import KEY, L, ONE
from tests.slow import SlowLog
from tests.texts import asked_twice, log_from, moved, query

# Four lets of which only the spans are known: u is from 0 to L and is 0; v is 1
# or 2 and is 2; w is -1 or 3 and is 3; z is 0 or 1 and is 1. Each hangs on a
# count of its own, so that none of them needs another one.
LETS = "let u = count(q, 1)\nlet v = if(count(q, 1), 1, 2)\nlet w = if(count(q, 1), -1, 3)\nlet z = (count(q, 1) = 0)"
VARIABLES = {"u": 0, "v": 1, "w": 2, "z": 3}
VALUES = {"u": 0, "v": 2, "w": 3, "z": 1}


def log_with(*lines):
    """A log that begins with the lets."""
    return log_from("\n".join([LETS, *lines]))


def slot_of(word):
    """A slot from a short text: a variable, or its position, its word, and its key."""
    if word in VARIABLES:
        return (VARIABLES[word], "let")
    position, name, *key = word.split()
    return (int(position), name, *[int(part) for part in key])


class EvaluationTest(unittest.TestCase):

    def check(self, log, text, value, found, position=None, entries=()):
        """The value, and the slots that are evaluated, in the order in which they end."""
        position = log[0][-1] if position is None else position
        expression = query(text, **VARIABLES) if isinstance(text, str) else text
        found = [slot_of(word) for word in found]
        with self.subTest(text=text, position=position, entries=entries):
            told, ended = asked_twice(self, evaluated, log, expression, position, entries=entries)
            self.assertEqual((told, [slot for slot, _ in ended]), (value, found))
            self.assertEqual(SlowLog(log, entries).evaluated(expression, position), (told, ended))
            for slot, worth in ended:
                self.assertEqual(value_of(log, expression_of(log, slot), slot[0]), worth)
            if not entries:
                self.assertEqual(asked_twice(self, value_of, log, expression, position), value)
                self.assertEqual(asked_twice(self, needed, log, expression, position), tuple(sorted(found)))

    def check_all(self, log, wanted):
        for text, value, *found in wanted:
            self.check(log, text, value, found)


class ExamplesTest(EvaluationTest):

    def test_examples(self):
        log = log_from("let x = count(s, 1)\nput t[if((x < 5), 3, 4)].a = 6")
        text = query("t[3].a")
        self.assertEqual((value_of(log, text, 2), needed(log, text, 2)), (6, ((0, "let"), (1, "key"))))
        self.assertEqual(evaluated(log, text, 2), (6, (((0, "let"), 0), ((1, "key"), 3))))
        self.assertEqual(evaluated(log, text, 2, entries=(((0, "let"), 0),)), (6, (((1, "key"), 3),)))
        self.assertEqual(needed(log, query("t[5].a"), 2), ())


class OperationsTest(EvaluationTest):

    def test_single_values_need_nothing(self):
        self.check_all(log_with(), (
            ("7", 7), ("(1 + 2)", 3), ("(u * 0)", 0), ("(u < 0)", 0), ("(v < 3)", 1), ("(w = 4)", 0),
            ("if(v, 7, u)", 7),
            ("if((v < 1), u, 8)", 8), ("if(u, 3, 3)", 3), ("at(5, key)", 5), ("t[5].a", 0), ("(v * (u * 0))", 0),
        ))

    def test_the_first_part_comes_first(self):
        self.check_all(log_with(), (
            ("(v + w)", 5, "v", "w"), ("(w + v)", 5, "w", "v"), ("(u - v)", -2, "u", "v"), ("(w - u)", 3, "w", "u"),
            ("(u * v)", 0, "u", "v"), ("(v * u)", 0, "v", "u"), ("(1 + v)", 3, "v"), ("(v + 1)", 3, "v"),
            ("((w + v) * (z - v))", -5, "w", "v", "z"), ("(v + v)", 4, "v"),
        ))

    def test_results_are_clipped(self):
        log = log_from(f"let x = (count(s, 1) + {L})\nlet y = (count(s, 1) - {L})\nlet z = (1 - count(s, 1))")
        for text, value in ((f"({L} + z)", L), (f"(-{L} - z)", -L), (f"({L} * (z + 1))", L), (f"((z + 1) * -{L})", -L)):
            expression = query(text, z=2)
            self.assertEqual(value_of(log, expression, 3), value)
        # A sum of which the span is clipped to one value needs nothing.
        self.assertEqual(evaluated(log, ("let", 0), 3), (L, ()))
        self.assertEqual(evaluated(log, ("let", 1), 3), (-L, (((1, "let"), -L),)))

    def test_equal(self):
        self.check_all(log_with(), (
            # Both parts are needed where the first one's value lies in the second one's span.
            ("(v = w)", 0, "v", "w"), ("(w = u)", 0, "w", "u"), ("(v = v)", 1, "v"), ("(v = (w - 1))", 1, "v", "w"),
            ("(z = v)", 0, "z", "v"),
            # u is 0, and w and v + 1 are not; 3 is no value of v.
            ("(u = v)", 0, "u"), ("(w = v)", 0, "w"), ("(v = z)", 0, "v"),
            # The second part's value would decide it, too, but the first one is asked.
            ("(v = 2)", 1, "v"), ("(2 = v)", 1, "v"), ("(1 = v)", 0, "v"), ("(u = 5)", 0, "u"), ("(5 = u)", 0, "u"),
        ))

    def test_less(self):
        self.check_all(log_with(), (
            ("(v < w)", 1, "v", "w"), ("(w < u)", 0, "w", "u"), ("(u < z)", 1, "u", "z"), ("(z < u)", 0, "z", "u"),
            # Less than the least value of the second part.
            ("(u < v)", 1, "u"), ("(u < (v + 5))", 1, "u"), ("((u + z) < (v + 1))", 1, "u", "z"),
            # Not less than its greatest one, which 2 and 3 are here.
            ("(w < v)", 0, "w"), ("(w < z)", 0, "w"), ("(v < (z + 1))", 0, "v"), ("(w < (v + 1))", 0, "w"),
            # The least value itself decides nothing.
            ("(z < v)", 1, "z", "v"), ("((z + 1) < (v + 1))", 1, "z", "v"),
            ("(2 < v)", 0), ("(1 < v)", 1, "v"), ("(v < 2)", 0, "v"), ("(w < 3)", 0, "w"),
        ))


class ChoicesTest(EvaluationTest):

    def test_if(self):
        self.check_all(log_with(), (
            ("if(z, v, w)", 2, "z", "v"), ("if(u, v, w)", 3, "u", "w"), ("if((z = 0), v, w)", 3, "z", "w"),
            ("if((u = 0), (v + w), u)", 5, "u", "v", "w"), ("if(z, 7, u)", 7, "z"), ("if(u, u, 7)", 7, "u"),
        ))

    def test_the_span_of_the_condition_decides(self):
        self.check_all(log_with(), (
            ("if(v, w, u)", 3, "w"), ("if((v < 1), w, u)", 0, "u"), ("if((u + 1), w, u)", 3, "w"),
            ("if((0 - v), w, u)", 3, "w"), ("if((v * 0), w, u)", 0, "u"),
        ))

    def test_at(self):
        self.check_all(log_with(), (
            ("at(w, (key + v))", 5, "w", "v"), ("at(v, key)", 2, "v"), ("at(w, 7)", 7, "w"),
            ("at(w, at(v, key))", 2, "w", "v"),
            ("at(5, (key + v))", 7, "v"), ("at(w, if((key < 3), u, v))", 2, "w", "v"),
            ("at((w + z), (key - at(1, key)))", 3, "w", "z"),
        ))

    def test_lets(self):
        log = log_with("let p = (v + w)", "let r = (p * 0)", "let s = (p + v)")
        for place, value, found in ((4, 5, ["v", "w", "4 let"]), (5, 0, []), (6, 7, ["v", "w", "4 let", "6 let"])):
            self.check(log, ("let", place), value, found)
        # A variable stands for a slot, so what it needs is asked where the let stands.
        log = log_from("put q[1].a = 1\nlet x = (count(q, 1) + q[1].a)\nput q[1].a = 5\ntell x")
        self.check(log, expression_of(log, (3, "tell")), 1, ["1 let"])


class CellsTest(EvaluationTest):

    def test_no_writer(self):
        self.check_all(log_with("put t[1].a = 1"), (
            ("t[5].b", 0), ("t[w].b", 0, "w"), ("s[w].a", 0, "w"), ("t[(u - u)].b", 0, "u"), ("t[s[v].b].b", 0, "v"),
        ))

    def test_what_the_key_of_an_at_needs_for_each_row(self):
        log = log_with("put t[1].in = 1", "put t[2].in = 1", "put t[1].a = v", "put t[2].a = w")
        self.check_all(log, (
            ("sum(t, 1, at(t[key].a, 7))", 14, "v", "6 value", "w", "7 value"),
            ("sum(t, 1, at(t[key].a, (key + at(1, t[key].a))))", 9, "v", "6 value", "w", "7 value"),
            ("count(t, (at(t[key].a, 7) < 0))", 0, "v", "6 value", "w", "7 value"),
        ))

    def test_single_spans(self):
        self.check_all(log_with("put t[3].a = 9"), (
            ("t[3].a", 9), ("t[4].a", 0), ("t[w].a", 9, "w"), ("t[v].a", 0, "v"),
        ))

    def test_puts(self):
        log = log_with("put t[3].a = u", "put t[v].a = w", "put s[v].a = 4", "put s[2].b = z")
        self.check_all(log, (
            # The key surely is another one.
            ("t[3].a", 0, "u", "4 value"),
            # It may be the one asked for, and is, or is not.
            ("t[2].a", 3, "v", "5 key", "w", "5 value"), ("t[1].a", 0, "v", "5 key"),
            # The key is needed, the value is known; and the other way round.
            ("s[2].a", 4, "v", "6 key"), ("s[2].b", 1, "z", "7 value"), ("s[1].b", 0),
            # The key of the cell comes before that of the put.
            ("t[w].a", 0, "w", "u", "4 value"), ("t[v].a", 3, "v", "5 key", "w", "5 value"),
        ))

    def test_keys_that_are_surely_other_ones_are_not_asked(self):
        log = log_with("put t[3].a = w", "put t[v].a = 1", "put t[(v + 8)].a = 1", "put t[(v + 1)].a = 7")
        self.check_all(log, (
            # The put at 7 has the key 2 or 3; those at 5 and 6 are passed by, that at 4 surely is.
            ("t[3].a", 7, "v", "7 key"), ("t[2].a", 1, "v", "7 key", "5 key"), ("t[10].a", 1, "v", "6 key"),
            ("t[1].a", 0, "v", "5 key"), ("t[0].a", 0),
        ))
        self.check(log, "t[3].a", 3, ["w", "4 value"], position=7)

    def test_eaches(self):
        log = log_with(
            "put t[1].in = 1", "put t[2].in = w", "put t[3].in = u",
            "each t if (key < v) put a = (key + z)", "each t if 1 put b = z", "each t if w put c = 7",
        )
        self.check_all(log, (
            # The row is surely there, and surely wanted.
            ("t[1].b", 1, "z", "8 value 1"), ("t[1].c", 7, "w", "9 guard 1"),
            ("t[1].a", 2, "v", "7 guard 1", "z", "7 value 1"),
            # It is surely absent.
            ("t[4].a", 0), ("t[4].b", 0), ("t[0].c", 0),
            # It is perhaps there.
            ("t[2].b", 1, "w", "5 value", "8 guard 2", "z", "8 value 2"), ("t[2].c", 7, "w", "5 value", "9 guard 2"),
            ("t[3].b", 0, "u", "6 value", "8 guard 3"), ("t[3].c", 0, "u", "6 value", "9 guard 3"),
            # It is perhaps there, but surely not wanted.
            ("t[3].a", 0), ("t[2].a", 0),
        ))

    def test_an_each_with_a_known_value(self):
        log = log_with("put t[1].in = z", "put t[1].a = 7", "each t if 1 put a = 7", "each t if 1 put b = 8")
        self.check_all(log, (("t[1].a", 7), ("t[1].b", 8, "z", "4 value", "7 guard 1")))

    def test_reading_stops_where_the_span_is_known(self):
        log = log_with("put t[1].a = 5", "put t[v].a = 5", "put t[(v + 1)].a = 6")
        self.check_all(log, (("t[2].a", 5, "v", "6 key", "5 key"), ("t[1].a", 5)))

    def test_where_an_expression_stands(self):
        log = log_with("put t[1].a = v", "need t[1].a", "put t[1].a = w")
        for position, value, found in (
            (4, 0, []), (5, 2, ["v", "4 value"]), (6, 2, ["v", "4 value"]), (7, 3, ["w", "6 value"]),
        ):
            self.check(log, "t[1].a", value, found, position=position)

    def test_needs_and_tells_are_never_needed(self):
        log = log_with("need (v + 1)", "put t[1].a = v", "tell (v + 2)")
        self.check(log, "t[1].a", 2, ["v", "5 value"])
        self.check(log, expression_of(log, (6, "tell")), 4, ["v"])


class AggregatesTest(EvaluationTest):

    ROWS = log_with(
        "put t[1].in = 1", "put t[2].in = w", "put t[3].in = u", "put t[v].a = z",
    )

    def test_words(self):
        self.check_all(self.ROWS, (
            ("count(t, 1)", 2, "w", "5 value", "u", "6 value"),
            ("count(t, (key < 2))", 1, "w", "5 value", "u", "6 value"),
            ("sum(t, (key < 3), (key * 10))", 30, "w", "5 value", "u", "6 value"),
            ("sum(t, 1, t[key].a)", 1, "v", "7 key", "w", "5 value", "z", "7 value", "u", "6 value"),
            ("most(t, 1, (key + v), w)", 4, "v", "w", "5 value", "u", "6 value"),
            ("most(t, (2 < key), key, w)", 3, "w", "5 value", "u", "6 value"),
            # first ends with the first key that it takes.
            ("first(t, 1, w)", 1), ("first(t, (1 < key), w)", 2, "w", "5 value"),
            ("first(t, (2 < key), w)", 3, "w", "5 value", "u", "6 value"),
        ))

    def test_first_of_a_known_row_is_still_evaluated(self):
        # Its span goes from -L to L, so the rule of aggregates holds; nothing needs to be asked.
        self.check(self.ROWS, "first(t, 1, (v + w))", 1, [])

    def test_conditions(self):
        log = log_with("put t[1].in = 1", "put t[2].in = 1", "put t[2].a = w", "put t[1].a = u")
        self.check_all(log, (
            ("count(t, t[key].a)", 1, "u", "7 value", "w", "6 value"),
            ("count(t, (key + v))", 2), ("count(t, (v < 1))", 0), ("count(t, z)", 2, "z"),
            ("count(t, (v = 1))", 0, "v"),
            ("sum(t, (key = 2), t[key].a)", 3, "w", "6 value"),
            ("sum(t, (t[key].a = 3), key)", 2, "u", "7 value", "w", "6 value"),
        ))

    def test_d_and_v(self):
        log = log_with("put t[5].in = z")
        self.check_all(log, (
            ("most(t, 1, v, u)", 2, "z", "4 value", "v"), ("most(t, 0, v, w)", 3, "z", "4 value", "w"),
            ("most(t, (v < 2), u, w)", 3, "z", "4 value", "v", "w"), ("first(t, 0, w)", 3, "z", "4 value", "w"),
            ("first(t, 1, w)", 5, "z", "4 value"), ("first(s, 1, w)", 3, "w"),
            ("most(s, u, u, w)", 3, "w"), ("sum(s, u, w)", 0), ("count(s, u)", 0), ("sum(t, 1, 7)", 7, "z", "4 value"),
            ("first(s, 1, 7)", 7), ("most(t, 1, 7, 7)", 7, "z", "4 value"),
        ))

    def test_values_that_are_negative_or_clipped(self):
        log = log_from(f"put t[1].in = 1\nput t[2].in = 1\nput t[1].a = -5\nput t[2].a = -7\nput t[1].b = {L}\nput t[2].b = {L}")
        self.check_all(log, (
            ("most(t, 1, t[key].a, 0)", -5), ("sum(t, 1, t[key].b)", L), ("sum(t, 1, (0 - t[key].b))", -L),
            ("first(t, 1, 0)", 1), ("sum(t, 1, t[key].a)", -12), ("most(t, 1, t[key].b, 0)", L),
        ))

    def test_the_total_is_clipped_once(self):
        log = log_from(
            f"put t[1].in = 1\nput t[2].in = 1\nput t[3].in = 1\nput t[1].a = {L}\nput t[2].a = {L}\nput t[3].a = -{L}"
        )
        self.check(log, "sum(t, 1, t[key].a)", L, [])

    def test_keys_of_puts_are_asked_from_the_last_one_back(self):
        log = log_with("put t[v].in = 1", "put t[(w + 5)].in = 1", "put t[(z + 20)].in = 1")
        self.check(log, "sum(t, 1, key)", 31, ["z", "6 key", "w", "5 key", "v", "4 key"])
        self.check(log, "sum(t, 1, key)", 10, ["w", "5 key", "v", "4 key"], position=6)
        self.check(log, "sum(t, 1, key)", 0, [], position=4)

    def test_a_span_that_is_listed_already(self):
        # Both keys that v may be are listed before it.
        log = log_with("put t[v].in = u", "put t[v].in = u", "put t[1].in = 1", "put t[2].in = 1")
        self.check(log, "count(t, 1)", 2, [])
        # A key that was put as 0 is listed, too.
        log = log_with("put t[v].in = 1", "put t[1].in = 0", "put t[2].in = 0")
        self.check(log, "first(t, 0, 5)", 5, [])
        # Only one of the two is listed, or they are listed later.
        log = log_with("put t[1].in = 1", "put t[v].in = 1", "put t[2].in = 1")
        self.check(log, "count(t, 1)", 2, ["v", "5 key"])
        log = log_with("put t[2].in = 1", "put t[1].in = 1", "put t[v].in = 1")
        self.check(log, "sum(t, 1, key)", 3, ["v", "6 key"])
        # The first v lists its value alone, so the second one is asked, too.
        log = log_with("put t[v].in = 1", "put t[v].in = 1")
        self.check(log, "sum(t, 1, key)", 2, ["v", "5 key", "4 key"])

    def test_keys_that_were_put_as_zero(self):
        log = log_with("put t[1].in = 0", "put t[2].in = 1", "put t[2].in = 0", "put t[3].in = 1")
        self.check(log, "sum(t, 1, key)", 3, [])
        self.check(log, ("sum", "t", (), ONE, ONE, KEY), 6, [])
        self.check(log, ("count", "t", (), ("=", ("cell", "t", KEY, "in"), ("int", 0)), ONE), 2, [])

    def test_eaches_add_no_keys(self):
        log = log_with("put t[1].in = 1", "each t if 1 put in = z", "put s[1].in = z", "each s if 0 put in = 1")
        self.check(log, "count(t, 1)", 1, ["z", "5 value 1"])
        self.check(log, "count(s, 1)", 1, ["z", "6 value"])

    def test_extra(self):
        three, u, v, w, z = ("int", 3), *[("let", VARIABLES[name]) for name in "uvwz"]
        log = log_with("put t[v].in = 1", "put t[5].in = 1")
        for extra, value, found in (
            ((), 7, ["v", "4 key"]),
            # In their order, and before the keys of puts.
            ((three,), 10, ["v", "4 key"]),
            ((w, z), 11, ["w", "z", "v", "4 key"]),
            ((z, w), 11, ["z", "w", "v", "4 key"]),
            ((("+", v, ("int", 1)), three), 10, ["v", "4 key"]),
            # 1 and 2 are listed: neither v nor the put's key is needed; nor is an extra expression.
            ((ONE, ("int", 2)), 8, []),
            ((ONE, ("int", 2), v), 8, []),
            ((ONE, v), 8, ["v"]),
            ((v, v), 7, ["v", "4 key"]),
            ((three, three, ("int", 5)), 10, ["v", "4 key"]),
            # z is 0 or 1.
            ((("int", 0), ONE, z), 8, ["v", "4 key"]),
            ((u, ONE, z), 8, ["u", "v", "4 key"]),
        ):
            self.check(log, ("sum", "t", extra, ONE, ONE, KEY), value, found)

    def test_extra_has_the_key_around(self):
        log = log_with()
        w = ("let", VARIABLES["w"])
        inner = ("sum", "t", (KEY, ("+", KEY, ONE)), ONE, ONE, ("*", KEY, ("int", 10)))
        self.check(log, ("at", ("int", 4), inner), 90, [])
        self.check(log, ("at", w, inner), 70, ["w"])
        # In D the key is that around the aggregate, in X, P and V its own.
        self.check(log, ("at", w, ("most", "t", (ONE,), KEY, ("<", KEY, ONE), KEY, ("+", KEY, ONE))), 4, ["w"])
        self.check(log, ("at", w, ("first", "t", (ONE,), KEY, ("=", KEY, ONE), KEY)), 1, ["w"])

    def test_x_is_looked_at_before_p(self):
        u, v, w, z = [("let", VARIABLES[name]) for name in "uvwz"]
        log = log_with()
        extra = (ONE, ("int", 2))
        for x, p, value, found in (
            (w, z, 2, ["w", "z"]), (u, z, 0, ["u"]), (v, z, 2, ["z"]), (("<", v, ONE), z, 0, []), (z, v, 2, ["z"]),
            (("<", KEY, v), w, 1, ["v", "w"]), (("=", KEY, ("int", 3)), u, 0, []),
        ):
            self.check(log, ("count", "t", extra, x, p), value, found)

    def test_the_three_steps_follow_each_other(self):
        log = log_with("put t[v].in = w", "put t[4].in = z")
        # First the keys, then for each of them X, P and V, at last D.
        self.check(log, "sum(t, (u = 0), (key * z))", 6, ["v", "4 key", "w", "4 value", "u", "z", "5 value"])
        self.check(log, "sum(t, ((key + u) = 4), (key * z))", 4, ["v", "4 key", "w", "4 value", "u", "z", "5 value"])
        self.check(log, "most(t, u, w, (v + 1))", 3, ["v", "4 key", "w", "4 value", "u", "z", "5 value"])

    def test_aggregates_within_one_another(self):
        log = log_with("put t[1].in = 1", "put t[2].in = 1", "put s[3].in = z")
        self.check(log, "sum(t, count(s, 1), sum(s, (key < 4), (key + count(t, v))))", 10, ["z", "6 value"])
        self.check(log, "sum(t, 1, most(s, 0, key, (key + w)))", 9, ["z", "6 value", "w"])
        self.check(log, "sum(t, 1, first(s, (key = 4), most(t, (key = 9), 0, key)))", 3, ["z", "6 value"])


class KnownTest(EvaluationTest):

    def test_complete_beginnings(self):
        log = log_with("put t[v].a = (w + z)", "let p = (t[2].a + t[1].a)", "put t[1].b = (p + u)")
        order = ["v", "4 key", "w", "z", "4 value", "5 let", "u", "6 value"]
        self.check(log, "t[1].b", 4, order)
        found = evaluated(log, query("t[1].b"), 7)[1]
        for many in range(len(order) + 1):
            self.check(log, "t[1].b", 4, order[many:], entries=tuple(sorted(found[:many])))

    def test_slots_that_are_not_needed(self):
        log = log_with("put t[v].a = w", "tell u")
        known = (((0, "let"), 0), ((3, "let"), 1), ((5, "tell"), 0))
        self.check(log, "t[2].a", 3, ["v", "4 key", "w", "4 value"], entries=known)
        self.check(log, "(u + z)", 1, [], entries=known)

    def test_what_is_evaluated_does_not_change_spans(self):
        # v is known to be 2, but its span is still from 1 to 2: the comparison goes by the span.
        log = log_with()
        self.check(log, "(z < v)", 1, ["z"], entries=(((1, "let"), 2),))
        self.check(log, "if((v < 2), 7, w)", 3, ["w"], entries=(((1, "let"), 2),))

    def test_lasting_order(self):
        """In any order of looks the same slots are evaluated altogether."""
        for seed in range(60):
            draw = random.Random(seed)
            log = random_log(draw)
            looks = [standing(draw, log) for _ in range(3)]
            wanted = sorted({slot for look in looks for slot in needed(log, *look)})
            entries = ()
            for look in looks:
                found = evaluated(log, *look, entries=entries)[1]
                self.assertEqual({slot for slot, _ in found} & {slot for slot, _ in entries}, set())
                entries = tuple(sorted(entries + found))
            self.assertEqual([slot for slot, _ in entries], wanted)


class LogsTest(EvaluationTest):

    def test_no_statements(self):
        for log in (log_from(), log_from("", ""), ((0, 10000), ())):
            for text, value in (("7", 7), ("t[7].a", 0), ("count(t, 1)", 0), ("most(t, 1, 1, -3)", -3)):
                self.check(log, text, value, [], position=log[0][-1])

    def test_positions_left_out(self):
        log = moved(log_with("put t[v].a = w"), 1, 4, 5, 1000, 9999, 10000)
        text = ("cell", "t", ("let", 4), "a")
        wanted = (((4, "let"), 2), ((9999, "key"), 2), ((5, "let"), 3), ((9999, "value"), 3))
        self.assertEqual(evaluated(log, text, 10000), (3, wanted))
        self.assertEqual(evaluated(log, text, 9999), (0, wanted[:1]))

    def test_several_transactions(self):
        log = log_from("let x = count(s, 1)\nput t[x].a = 1", "let x = (count(s, 1) + 1)\nput t[x].a = (x + 1)")
        self.check(log, "t[0].a", 1, ["u", "1 key"])
        self.check(log, "t[1].a", 2, ["2 let", "3 key", "3 value"])


class RandomTest(unittest.TestCase):

    def test_held_against_the_slow_one(self):
        many = {}
        for seed in range(500):
            draw = random.Random(seed)
            log = random_log(draw)
            for _ in range(3):
                expression, position = standing(draw, log)
                wanted = SlowLog(log).evaluated(expression, position)
                with self.subTest(log=log, expression=expression, position=position):
                    self.assertEqual(evaluated(log, expression, position), wanted)
                    self.assertEqual(needed(log, expression, position), tuple(sorted(slot for slot, _ in wanted[1])))
                    beginning = tuple(sorted(wanted[1][:draw.randint(0, len(wanted[1]))]))
                    self.assertEqual(evaluated(log, expression, position, entries=beginning),
                                     SlowLog(log, beginning).evaluated(expression, position))
                for slot, _ in wanted[1]:
                    many[slot[1]] = many.get(slot[1], 0) + 1
        for word in ("let", "key", "value", "guard"):
            self.assertGreater(many[word], 30)

    def test_held_against_the_plain_store_at_every_moment(self):
        for seed in range(150):
            draw = random.Random(seed)
            store = PlainStore()
            accepted = []
            for one in [rows(draw)] + [transaction(draw, draw.randrange(9)) for _ in range(6)]:
                try:
                    store.commit(one)
                    accepted.append(one)
                except Refused:
                    pass
            log = log_of(*accepted)
            for moment in range(store.moment + 1):
                for _ in range(4):
                    expression = random_expression(draw, 4)
                    with self.subTest(log=log, moment=moment, expression=expression):
                        value = store.value(expression, moment=moment)
                        self.assertEqual(value_of(log, expression, log[0][moment]), value)

    def test_what_is_evaluated_was_not_known(self):
        for seed in range(100):
            draw = random.Random(seed)
            log = random_log(draw)
            found = evaluated(log, *standing(draw, log))[1]
            self.assertEqual(len({slot for slot, _ in found}), len(found))
            for slot, value in found:
                low, high = slot_span(log, slot)
                self.assertTrue(low < high and low <= value <= high)


if __name__ == "__main__":
    unittest.main()
