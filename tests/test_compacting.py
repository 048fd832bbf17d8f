"""Points 29, 30 and 31, and lookdone/compacting.py."""

import random
import unittest

from lookdone.compacting import compact, is_hidden, live
from lookdone.evaluation import evaluated, needed, value_of
from lookdone.logs import is_log
from lookdone.slotspans import slot_span, span_of
from lookdone.statementtexts import read_transaction, show_transaction
from tests.randomlogs import expression, random_log, standing
from tests.slow import SlowLog
from tests.slowcompacting import SlowCompacting
from tests.texts import asked_twice, chain, log_from, moved, query

# x is from 0 to L, and is 0; v is 1 or 2, and is 2.
LETS = "let x = count(s, 1)\nlet v = if(count(s, 1), 1, 2)"
X = ((0, "let"), 0)
V = ((1, "let"), 2)


def log_with(*lines):
    """A log of one transaction that begins with the lets."""
    return log_from("\n".join([LETS, *lines]))


class CompactingTest(unittest.TestCase):

    def check_live(self, log, moments, wanted, entries=()):
        with self.subTest(log=log, moments=moments, entries=entries):
            found = asked_twice(self, live, log, moments, entries=entries)
            self.assertEqual(found, wanted)
            self.assertEqual(SlowCompacting(log, entries).live(moments), wanted)

    def check(self, log, moments, lines, entries=()):
        """The statements of the compacted log, with their positions, as texts."""
        with self.subTest(log=log, moments=moments, entries=entries):
            found = asked_twice(self, compact, log, moments, entries=entries)
            self.assertEqual(found, SlowCompacting(log, entries).compact(moments))
            self.assertEqual([f"{place} {show_transaction((one,))}" for place, one in found[1]], list(lines))
            self.check_promises(log, moments, found, entries)

    def check_promises(self, log, moments, found, entries):
        """The same marks and the same values, nothing that was evaluated is evaluated again."""
        self.assertIs(is_log(found), True)
        self.assertEqual(found[0], log[0])
        draw = random.Random(repr((log, moments)))
        texts = [query(text) for text in ("t[1].a", "t[2].a", "count(t, 1)", "sum(t, 1, (t[key].a + t[key].b))")]
        for moment in moments:
            position = log[0][moment]
            for look in texts + [expression(draw, 4) for _ in range(3)]:
                self.assertEqual(value_of(found, look, position), value_of(log, look, position))
                low, high = span_of(log, look, position)
                lowest, highest = span_of(found, look, position)
                self.assertTrue(low <= lowest <= highest <= high)
                self.assertEqual({slot for slot, _ in entries} & set(needed(found, look, position)), set())
        left = dict(found[1])
        for slot, value in entries:
            if len(slot) == 3 and slot[0] in left:
                self.assertEqual(slot_span(found, slot), (value, value))


class HiddenTest(unittest.TestCase):

    def check(self, log, position, hidden_from, entries=()):
        """At which positions the put is hidden: from one on, or nowhere."""
        for other in range(log[0][-1] + 1):
            with self.subTest(position=position, other=other, entries=entries):
                wanted = hidden_from is not None and other >= hidden_from
                self.assertIs(asked_twice(self, is_hidden, log, position, other, entries=entries), wanted)
                self.assertIs(SlowCompacting(log, entries).is_hidden(position, other), wanted)

    def test_keys_known_by_their_span(self):
        log = log_with("put t[1].a = 1", "need 1", "put t[(2 - 1)].a = x", "put t[1].a = 3")
        self.check(log, 2, 5)
        self.check(log, 4, 6)
        self.check(log, 5, None)

    def test_another_key_column_or_table(self):
        log = log_with("put t[1].a = 1", "put t[2].a = 1", "put t[1].b = 1", "put s[1].a = 1", "each t if 1 put a = 5")
        for position in range(2, 6):
            self.check(log, position, None)
        log = log_with("put t[1].a = 1", "put t[1].b = 1", "put s[1].a = 1", "put t[1].in = 1", "put t[1].a = 2")
        self.check(log, 2, 7)

    def test_unknown_keys(self):
        log = log_with("put t[v].a = 1", "put t[2].a = 1", "put t[v].a = 1", "put t[2].a = 1")
        self.check(log, 2, None)
        self.check(log, 3, 6)
        self.check(log, 4, None)
        self.check(log, 5, None)

    def test_evaluated_keys(self):
        log = log_with("put t[v].a = 1", "put t[2].a = 1", "put t[v].a = 1", "put t[1].a = 1")
        self.check(log, 2, None, (X, V))
        self.check(log, 3, None, (X, V))
        known = (X, V, ((2, "key"), 2))
        self.check(log, 2, 4, known)
        self.check(log, 3, None, known)
        known = (X, V, ((2, "key"), 2), ((4, "key"), 2))
        self.check(log, 2, 4, known)
        self.check(log, 3, 5, known)
        self.check(log, 4, None, known)
        self.check(log, 2, None, (V, ((4, "key"), 2)))
        self.check(log, 3, 5, (V, ((4, "key"), 2)))

    def test_eaches_are_not_hidden_and_hide_nothing(self):
        log = log_with("put t[1].in = 1", "put t[1].a = 1", "each t if 1 put a = 2", "each t if 1 put a = 3",
                       "put t[1].a = 4")
        self.check(log, 3, 7)
        self.check(log, 4, None)
        self.check(log, 5, None)
        known = (((4, "guard", 1), 1), ((4, "value", 1), 2))
        self.check(log, 4, None, known)

    def test_positions_left_out(self):
        log = moved(log_from("put t[1].a = 1\nput t[1].a = 2\nneed 1"), 2, 5, 8, 11)
        self.check(log, 2, 6)
        self.check(log, 5, None)

    def test_several_transactions(self):
        log = log_from("put t[1].a = 1", "", "put t[1].a = 2", "put t[1].a = 3")
        self.check(log, 0, 2)
        self.check(log, 1, 3)
        self.check(log, 2, None)


class LiveTest(CompactingTest):

    def test_example(self):
        log = log_from("put t[1].a = 2", "put t[1].a = 3")
        self.assertEqual(live(log, (1, 2)), (0, 1))
        self.assertEqual(compact(log, (2,)), ((0, 1, 2), ((1, ("put", "t", ("int", 1), "a", ("int", 3))),)))

    def test_no_moments(self):
        for log in (log_from(), log_from(""), log_with("put t[v].a = x"), log_from("put t[1].a = 1", "put t[1].a = 2")):
            self.check_live(log, (), ())
            self.check(log, (), ())

    def test_what_the_moments_can_read(self):
        log = log_from("put t[1].a = 1", "put t[1].a = 2\nput t[2].a = 3", "need 1\ntell 1\nlet x = 1",
                       "each t if 1 put a = 4")
        self.check_live(log, (0,), ())
        self.check_live(log, (1,), (0,))
        self.check_live(log, (2,), (1, 2))
        self.check_live(log, (3,), (1, 2))
        self.check_live(log, (4,), (1, 2, 6))
        self.check_live(log, (1, 4), (0, 1, 2, 6))
        self.check_live(log, (0, 1, 2, 3, 4), (0, 1, 2, 6))

    def test_open_expressions(self):
        log = log_from(
            "put s[1].a = 5\nput s[2].a = 6\nput s[1].a = 7\nput s[1].b = 8", "put t[1].a = (s[1].a + count(q, 1))",
            "put s[1].a = 9\nput s[1].b = 10",
        )
        # The value of the put at 4 is open: it reads s.a, and the column in of q, where it stands.
        self.check_live(log, (3,), (1, 2, 4, 5, 6))
        self.check_live(log, (2,), (1, 2, 3, 4))
        self.check_live(log, (3,), (1, 4, 5, 6), entries=(((4, "value"), 7),))

    def test_known_slots_are_not_open(self):
        log = log_with("put s[1].a = v", "put t[s[1].a].a = s[1].a", "put s[1].a = 3")
        self.check_live(log, (1,), (1, 2, 3, 4))
        known = (V, ((2, "value"), 2))
        self.check_live(log, (1,), (2, 3, 4), entries=known)
        self.check_live(log, (1,), (2, 3, 4), entries=(*known, ((3, "key"), 2)))
        self.check_live(log, (1,), (3, 4), entries=(*known, ((3, "key"), 2), ((3, "value"), 2)))

    def test_lets(self):
        log = log_with("let y = (x + 1)", "let z = 7", "put t[y].a = z", "let w = v")
        self.check_live(log, (1,), (0, 2, 4))
        # A known let is live, too, but what it hangs on is not.
        self.check_live(log, (1,), (2, 4), entries=(X, ((2, "let"), 1)))
        self.check_live(log, (1,), (4,), entries=(X, ((2, "let"), 1), ((4, "key"), 1)))
        log = log_with("let z = 7", "put t[(x + z)].a = z")
        self.check_live(log, (1,), (0, 2, 3))

    def test_lets_that_read(self):
        log = log_from("put q[1].in = 1\nput q[1].a = 2\nlet x = sum(q, 1, q[key].a)\nput q[1].a = 3\nput t[1].a = x\nput q[1].in = 0")
        self.check_live(log, (1,), (0, 1, 2, 3, 4, 5))
        self.check_live(log, (1,), (3, 4, 5), entries=(((2, "let"), 2), ((4, "value"), 2)))

    def test_aggregates_name_the_column_in(self):
        log = log_from("put s[1].in = 1\nput s[1].b = 1\nput t[1].a = count(s, 1)\nput s[1].in = 2\nput s[1].b = 2")
        self.check_live(log, (1,), (0, 2, 3, 4))
        log = log_from("put s[1].in = 1\nput s[1].b = 1\nput t[1].a = most(s, s[key].b, 1, 1)\nput s[1].in = 2\nput s[1].b = 2")
        self.check_live(log, (1,), (0, 1, 2, 3, 4))

    def test_eaches_name_the_column_in_of_their_table(self):
        log = log_from("put t[1].in = 1\nput s[1].in = 1\neach t if 1 put a = 7\nput t[1].in = 2\nput s[1].in = 2")
        self.check_live(log, (1,), (0, 2, 3, 4))
        # Its expressions are open, whichever of its slots are known.
        log = log_with("put t[1].in = 1", "put s[1].b = x", "each t if s[1].b put a = s[1].c", "put t[1].in = 0",
                       "put s[1].b = 0")
        self.check_live(log, (1,), (0, 2, 3, 4, 5, 6))
        known = (X, ((3, "value"), 0), ((4, "guard", 1), 0))
        self.check_live(log, (1,), (2, 3, 4, 5, 6), entries=known)

    def test_visible_at_the_position_of_the_statement(self):
        log = log_from(
            "put s[1].a = 1\nput s[1].a = 2\nput t[1].a = (s[1].a + count(s, 1))\nput s[1].a = 3\nput s[1].a = 4",
            "put s[1].a = 5",
        )
        self.check_live(log, (2,), (1, 2, 5))
        self.check_live(log, (1, 2), (1, 2, 4, 5))


class CompactTest(CompactingTest):

    def test_known_ones_become_integers(self):
        log = log_with("put t[v].a = (x + 1)", "put t[(v + 1)].b = (2 * 3)", "each t if (key < v) put a = (key + x)")
        self.check(log, (1,), (
            "0 let x = count(s, 1)", "1 let v = if(count(s, 1), 1, 2)", "2 put t[v].a = (x + 1)",
            "3 put t[(v + 1)].b = 6",
            "4 each t if (key < v) put a = (key + x)",
        ))
        self.check(log, (1,), (
            "1 let v = if(count(s, 1), 1, 2)", "2 put t[v].a = 1", "3 put t[(v + 1)].b = 6",
            "4 each t if (key < v) put a = (key + 0)",
        ), entries=(X, ((2, "value"), 1)))
        self.check(log, (1,), (
            "0 let x = count(s, 1)", "2 put t[2].a = (x + 1)", "3 put t[3].b = 6",
            "4 each t if (key < 2) put a = (key + x)",
        ), entries=(V, ((2, "key"), 2), ((3, "key"), 3)))

    def test_needs_and_tells_are_left_out(self):
        log = log_with("need v", "put t[1].a = 1", "tell v", "need 0")
        self.check(log, (0, 1), ("3 put t[1].a = 1",), entries=(V, ((2, "need"), 2), ((4, "tell"), 2)))

    def test_lets_in_lets(self):
        log = log_with("let y = (x + (v * x))", "let z = 5", "let w = (y + z)", "put t[1].a = (w + w)")
        self.check(log, (1,), (
            "0 let x = count(s, 1)", "1 let v = if(count(s, 1), 1, 2)", "2 let y = (x + (v * x))", "4 let w = (y + 5)",
            "5 put t[1].a = (w + w)",
        ))
        self.check(log, (1,), (
            "1 let v = if(count(s, 1), 1, 2)", "2 let y = (0 + (v * 0))", "4 let w = (y + 5)", "5 put t[1].a = (w + w)",
        ), entries=(X,))

    def test_the_same_name_in_several_transactions(self):
        log = log_from(
            "let x = count(s, 1)\nput t[1].a = x", "let x = (count(s, 1) + 7)\nput t[2].a = (x + x)",
            "put t[3].a = t[2].a",
        )
        known = (((2, "let"), 7),)
        self.check(log, (3,), (
            "0 let x = count(s, 1)", "1 put t[1].a = x", "3 put t[2].a = (7 + 7)", "4 put t[3].a = t[2].a",
        ), entries=known)

    def test_variables_in_all_parts(self):
        log = log_with("put t[1].a = most(s, (x < s[key].a), at(x, (key + x)), if(v, x, 3))")
        self.check(log, (1,), (
            "1 let v = if(count(s, 1), 1, 2)", "2 put t[1].a = most(s, (0 < s[key].a), at(0, (key + 0)), if(v, 0, 3))",
        ), entries=(X,))

    def test_all_moments(self):
        log = log_from("put t[1].a = 1\nput t[1].a = 2", "put t[1].a = 3", "", "put t[1].a = 4")
        self.check(log, (0, 1, 2, 3, 4), ("1 put t[1].a = 2", "2 put t[1].a = 3", "3 put t[1].a = 4"))
        self.check(log, (4,), ("3 put t[1].a = 4",))

    def test_positions_left_out(self):
        log = moved(log_from("put t[1].a = 1\nlet x = count(s, 1)\nput t[x].a = 2\nneed x"), 5, 6, 100, 9000, 10000)
        self.check(log, (1,), ("5 put t[1].a = 1", "6 let x = count(s, 1)", "100 put t[x].a = 2"))
        self.check(log, (1,), ("5 put t[1].a = 1", "100 put t[0].a = 2"), entries=(((6, "let"), 0), ((100, "key"), 0)))

    def test_compacted_once_more(self):
        log = log_with("put t[v].a = (x + 1)", "put t[2].a = 5", "each t if (key < v) put a = (key + x)")
        found = evaluated(log, query("t[2].a"), 5)[1]
        once = compact(log, (1,), entries=tuple(sorted(found)))
        self.assertEqual(compact(once, (1,)), once)
        self.assertEqual(evaluated(once, query("t[2].a"), 5), (5, ()))

    def test_rows_that_were_evaluated(self):
        log = log_with(
            "put t[1].in = 1", "put t[v].in = (x + 1)", "put t[1].a = x", "put t[1].a = 3",
            "each t if (t[key].a < (v * 2)) put a = (t[key].a + v)", "put t[1].in = 0",
        )
        found = tuple(sorted(evaluated(log, query("(t[1].a + t[2].a)"), 8)[1]))
        self.assertIn(((6, "guard", 1), 1), found)
        self.assertIn(((6, "value", 2), 2), found)
        self.check(log, (1,), (
            "2 put t[1].in = 1", "3 put t[2].in = 1", "5 put t[1].a = 3",
            "6 each t if (t[key].a < (2 * 2)) put a = (t[key].a + 2)",
            "7 put t[1].in = 0",
        ), entries=found)

    def test_a_chain_of_400_statements(self):
        log = chain("put t[1].a = count(s, 1)", *["put t[1].a = (t[1].a + 1)"] * 399)
        end = len(log[0]) - 1
        self.assertEqual(live(log, (end,)), tuple(range(400)))
        self.assertEqual(compact(log, (end,)), log)
        found = evaluated(log, query("t[1].a"), 400)[1]
        self.assertEqual(live(log, (end,), entries=found), (399,))
        # Every known value makes all below it superfluous.
        self.assertEqual(live(log, (end,), entries=found[:300]), tuple(range(299, 400)))
        self.assertEqual(live(log, (1, end), entries=found), (39, 399))
        log = chain("put t[1].in = (count(s, 1) + 1)", *["each t if (t[key].in < 300) put in = (t[key].in + 1)"] * 399)
        found = tuple(sorted(evaluated(log, query("t[1].in"), 400)[1]))
        other = compact(log, (end,), entries=found)
        self.assertEqual(evaluated(other, query("t[1].in"), 400), (300, ()))
        self.assertEqual(len(other[1]), 400)


class RandomTest(CompactingTest):

    def test_held_against_the_slow_one(self):
        fewer = 0
        for seed in range(300):
            draw = random.Random(seed)
            log = random_log(draw)
            entries = self.random_entries(draw, log)
            moments = tuple(moment for moment in range(len(log[0])) if draw.random() < 0.4)
            slow = SlowCompacting(log, entries)
            with self.subTest(log=log, entries=entries, moments=moments):
                self.assertEqual(live(log, moments, entries=entries), slow.live(moments))
                found = compact(log, moments, entries=entries)
                self.assertEqual(found, slow.compact(moments))
                self.check_promises(log, moments, found, entries)
            fewer += len(found[1]) < len(compact(log, moments)[1])
        self.assertGreater(fewer, 5)

    def test_hidden_held_against_the_slow_one(self):
        hidden = 0
        for seed in range(100):
            draw = random.Random(seed)
            log = random_log(draw)
            entries = self.random_entries(draw, log)
            slow = SlowCompacting(log, entries)
            for position, statement in log[1]:
                if statement[0] == "put":
                    other = draw.randint(position, log[0][-1])
                    wanted = slow.is_hidden(position, other)
                    self.assertIs(is_hidden(log, position, other, entries=entries), wanted)
                    hidden += wanted
        self.assertGreater(hidden, 10)

    def random_entries(self, draw, log):
        """What was evaluated by some looks, perhaps the last of them not to the end."""
        slow = SlowLog(log)
        for _ in range(draw.randrange(4)):
            slow.evaluated(*standing(draw, log))
        return tuple(sorted(slow.ended[:draw.choice((len(slow.ended), draw.randint(0, len(slow.ended))))]))


class StatementsTest(CompactingTest):

    def test_all_values_at_all_moments(self):
        """A small log by hand: every cell at every moment, for each set of moments."""
        texts = (
            "put t[1].in = 1\nput t[1].a = 5", "let x = count(t, 1)\nput t[(x + 1)].in = x\nput t[x].a = (t[x].a + x)",
            "each t if (t[key].a < 7) put a = (key * 10)\nput t[1].in = 0", "put t[2].a = sum(t, 1, t[key].a)",
        )
        log = log_from(*texts)
        looks = [query(f"t[{key}].{column}") for key in range(4) for column in ("in", "a")] + [query("count(t, 1)")]
        found = evaluated(log, query("t[2].a"), log[0][-1])[1]
        for many in range(len(found) + 1):
            entries = tuple(sorted(found[:many]))
            for mask in range(32):
                moments = tuple(moment for moment in range(5) if mask >> moment & 1)
                other = compact(log, moments, entries=entries)
                for moment in moments:
                    for look in looks:
                        place = log[0][moment]
                        self.assertEqual(value_of(other, look, place), value_of(log, look, place))
        self.assertEqual(len(read_transaction(texts[1])), 3)


if __name__ == "__main__":
    unittest.main()
