"""Point 26: lookdone/traces.py and lookdone/tracechecks.py."""

import random
import unittest

from lookdone.evaluation import evaluated, needed, value_of
from lookdone.expressions import is_plain
from lookdone.slots import expression_of
from lookdone.slotspans import slot_span
from lookdone.tracechecks import trace_holds
from lookdone.traces import trace_of
from tests.randomlogs import expression, random_log
from tests.samples import L, OTHER_THINGS, nested
from tests.slow import SlowLog
from tests.test_chains import MANY, lets
from tests.texts import asked_twice, chain, log_from, query

LOG = log_from("let x = count(s, 1)\nput t[if((x < 5), 3, 4)].a = 6")
X, A = ((0, "let"), 0), ((1, "key"), 3)


class ToldTest(unittest.TestCase):

    def check(self, log, look, position, wanted):
        found = asked_twice(self, trace_of, log, look, position)
        self.assertEqual(found, wanted)
        self.assertEqual(found[0], value_of(log, look, position))
        self.assertEqual(tuple(slot for slot, _ in found[1]), needed(log, look, position))
        self.assertIs(asked_twice(self, trace_holds, log, look, position, found), True)

    def test_example(self):
        self.check(LOG, query("t[3].a"), 2, (6, (X, A)))

    def test_that_need_nothing(self):
        self.check(LOG, query("7"), 0, (7, ()))
        self.check(LOG, query("t[5].a"), 2, (0, ()))
        self.check(log_from(), query("count(t, 1)"), 0, (0, ()))
        self.check(LOG, query("t[3].a"), 1, (0, ()))

    def test_one_slot(self):
        log = log_from("put t[1].a = count(s, 1)")
        self.check(log, query("(t[1].a + t[1].a)"), 1, (0, (((0, "value"), 0),)))

    def test_eaches(self):
        log = log_from("put t[1].in = 1\nput t[2].in = 1\nlet x = count(t, 1)\neach t if (key = x) put a = (key + x)")
        self.check(log, query("sum(t, 1, t[key].a)"), 4, (
            4, (((2, "let"), 2), ((3, "guard", 1), 0), ((3, "guard", 2), 1), ((3, "value", 2), 4)),
        ))

    def test_a_chain(self):
        log = chain("put t[1].a = count(s, 1)", *["put t[1].a = (t[1].a + 1)"] * (MANY - 1))
        self.check(log, query("t[1].a"), MANY, (399, tuple(((place, "value"), place) for place in range(MANY))))
        self.check(lets(), query("t[200].a"), MANY, (200, tuple(
            ((place, "let" if place % 2 == 0 else "value"), place // 2 + 1) for place in range(MANY))))

    def test_no_entry_can_be_left_out(self):
        seen = 0
        for seed in range(400):
            draw = random.Random(seed)
            log = random_log(draw)
            look, position = expression(draw, 4), log[0][-1]
            value, found = evaluated(log, look, position)
            self.check(log, look, position, (value, tuple(sorted(found))))
            for entry in found:
                less = tuple(sorted(other for other in found if other != entry))
                self.assertIs(trace_holds(log, look, position, (value, less)), False)
                seen += 1
        self.assertGreater(seen, 200)


class HoldsTest(unittest.TestCase):

    def setUp(self):
        self.log = log_from(
            "let x = count(s, 1)\nput t[if((x < 5), 3, 4)].a = 6\nlet y = (x + 1)\nput t[1].b = 5",
            "each t if (key = t[3].a) put a = (key + t[3].a)", "let z = (count(s, 1) + 2)\nput t[z].c = z",
        )
        # It needs nothing.
        self.look = query("t[1].b")
        self.told = trace_of(self.log, self.look, 7)
        self.right = {slot: value_of(self.log, expression_of(self.log, slot), slot[0]) for slot in (
            (0, "let"), (1, "key"), (1, "value"), (2, "let"), (3, "key"), (3, "value"), (4, "guard", 3), (4, "value", 3),
            (4, "guard", 9), (4, "value", -L), (5, "let"), (6, "key"), (6, "value"),
        )}

    def check(self, thing, wanted, look=None):
        with self.subTest(thing=thing):
            self.assertIs(asked_twice(self, trace_holds, self.log, look or self.look, 7, thing), wanted)

    def test_example(self):
        self.assertIs(trace_holds(LOG, query("t[3].a"), 2, (6, (((1, "key"), 3),))), False)
        self.assertIs(trace_holds(LOG, query("t[3].a"), 2, (6, (X, A))), True)
        self.assertIs(trace_holds(LOG, query("t[3].a"), 2, (6, (X,))), False)
        self.assertIs(trace_holds(LOG, query("t[3].a"), 2, (6, ())), False)

    def test_the_told_one(self):
        self.check(self.told, True)
        self.assertEqual(self.told, (5, ()))
        self.look = query("t[4].a")
        self.told = trace_of(self.log, self.look, 7)
        self.assertEqual(self.told, (0, (X, A)))
        self.check(self.told, True)

    def test_more_right_entries(self):
        """Those that are not needed do no harm, if they are right."""
        for slots in (((5, "let"),), ((0, "let"), (2, "let")), ((1, "value"), (3, "key"), (3, "value")), tuple(self.right)):
            entries = tuple(sorted((slot, self.right[slot]) for slot in slots))
            self.check((self.told[0], entries), True)
            # Each of them has to be right, also if nothing needs it.
            for number, (slot, value) in enumerate(entries):
                for other in (value + 1, value - 1, L, -L):
                    wrong = entries[:number] + ((slot, other),) + entries[number + 1:]
                    self.check((self.told[0], wrong), False)
            for value in (self.told[0] + 1, -L, L):
                self.check((value, entries), False)

    def test_an_entry_that_needs_another_one(self):
        # The let at 2 is not needed, but as an entry it needs the one at 0.
        self.check((self.told[0], (((2, "let"), 1),)), False)
        self.check((self.told[0], (((0, "let"), 0), ((2, "let"), 1))), True)
        self.check((self.told[0], (((1, "key"), 3),)), False)

    def test_an_entry_with_a_single_value_as_its_span(self):
        for slot in ((1, "value"), (3, "key"), (3, "value")):
            low, high = slot_span(self.log, slot)
            self.assertEqual(low, high)
            self.check((self.told[0], ((slot, low),)), True)
            self.check((self.told[0], ((slot, low + 1),)), False)

    def test_the_trace_of_another_look(self):
        look = query("t[2].c")
        told = trace_of(self.log, look, 7)
        self.assertEqual(told, (2, (((5, "let"), 2), ((6, "key"), 2), ((6, "value"), 2))))
        self.check(told, True, look)
        self.check(told, False)
        self.check((self.told[0], told[1]), True)
        self.check(self.told, False, look)
        self.check((2, ()), True, query("2"))

    def test_left_out_changed_twice_exchanged(self):
        look = query("(t[2].c + t[4].a)")
        value, entries = trace_of(self.log, look, 7)
        self.assertEqual(len(entries), 5)
        self.check((value, entries), True, look)
        for number, (slot, right) in enumerate(entries):
            before, after = entries[:number], entries[number + 1:]
            self.check((value, before + after), False, look)
            self.check((value, before + ((slot, right + 1),) + after), False, look)
            self.check((value, before + ((slot, right),) * 2 + after), False, look)
            self.check((value, before + ((slot, right), (slot, right + 1)) + after), False, look)
            if after:
                self.check((value, before + (after[0], (slot, right)) + after[1:]), False, look)
        self.check((value, entries[::-1]), False, look)

    def test_wrong_entries_that_agree_with_each_other(self):
        log = log_from("let x = count(s, 1)\nlet y = (x + 1)\nput t[1].a = (y * 2)")
        look = query("t[1].a")
        self.assertIs(trace_holds(log, look, 3, (2, (((0, "let"), 0), ((1, "let"), 1), ((2, "value"), 2)))), True)
        self.assertIs(trace_holds(log, look, 3, (4, (((0, "let"), 1), ((1, "let"), 2), ((2, "value"), 4)))), False)
        self.assertIs(trace_holds(log, look, 3, (4, (((0, "let"), 0), ((1, "let"), 2), ((2, "value"), 4)))), False)
        self.assertIs(trace_holds(log, look, 3, (4, (((0, "let"), 0), ((1, "let"), 1), ((2, "value"), 4)))), False)
        # Without the slots below, only the last one can be asked.
        self.assertIs(trace_holds(log, look, 3, (2, (((2, "value"), 2),))), False)

    def test_values_of_the_right_kind(self):
        log = log_from("let x = count(s, 1)\nlet y = (x + 1)\nneed (x < y)")
        look, entries = query("(t[1].a = t[1].a)"), ()
        self.assertIs(trace_holds(log, look, 3, (1, entries)), True)
        self.assertIs(trace_holds(log, look, 3, (True, entries)), False)
        good = (((0, "let"), 0), ((1, "let"), 1))
        self.assertIs(trace_holds(log, look, 3, (1, good)), True)
        for bad in (
            (((False, "let"), 0), ((1, "let"), 1)), (((0, "let"), 0), ((True, "let"), 1)), (((0, "let"), False), ((1, "let"), 1)),
            (((0, "let"), 0), ((1, "let"), True)), (((0, "let"), None), ((1, "let"), 1)), (((0, "let"), "0"), ((1, "let"), 1)),
            (((0, "let"), 0), ((1, "let"), 10 ** 39)), (((0, "let"), (0,)), ((1, "let"), 1)),
            ([(0, "let"), 0], ((1, "let"), 1)), (([0, "let"], 0), ((1, "let"), 1)), [((0, "let"), 0), ((1, "let"), 1)],
            {(0, "let"): 0, (1, "let"): 1}, (((0, "let"), 0, 0), ((1, "let"), 1)), (((0, "let"),), ((1, "let"), 1)),
            (((0, "let", 0), 0), ((1, "let"), 1)), ((0, "let"), 0), (0, "let", 0), ((("0", "let"), 0),), (((0, 0), 0),), (None,),
            (((0, "let"), 0), ((1, "let"), 1), ((2, "let"), 1)), (((-1, "let"), 0),), (((3, "let"), 0),), (((10 ** 39, "let"), 0),),
            (((2, "tell"), 1),), (((0, "Let"), 0),), ((((0,), "let"), 0),), (((0, ("let",)), 0),), (((), 0),), ((0, 0),),
        ):
            with self.subTest(bad=bad):
                self.assertIs(trace_holds(log, look, 3, (1, bad)), False)

    def test_keys_of_eaches(self):
        look = query("t[3].b")
        for key in (0, 3, L, -L):
            self.check((0, (((4, "guard", key), 0),)), key in (0, L, -L, 3), look)
        for key in (True, False, L + 1, 10 ** 39, "3", None, (3,), [3], ()):
            self.check((0, (((4, "guard", key), 0),)), False, look)
        for slot in ((4, "guard"), (4, "value"), (4, "guard", 3, 3), (4, "key", 3), (4, "let"), (0, "guard", 3)):
            self.check((0, ((slot, 0),)), False, look)

    def test_things_of_all_kinds(self):
        things = OTHER_THINGS + (
            (6,), (6, (), ()), (6, ((),)), [6, ()], (6, []), (6, None), (None, ()), ("6", ()), ((6,), ()), ((), 6), {6: ()},
            (6, {}), (6, ""), nested((6, ()), 28), nested([(6, ())], 27), (6, nested((), 28)), (6, (nested((0, "let"), 27),)),
            (6, tuple(((place, "let"), 0) for place in range(1600))), "(6, ())", tuple(range(5000)), (6, tuple(range(4990))),
        )
        for thing in things:
            with self.subTest(thing=repr(thing)[:80]):
                self.assertIs(trace_holds(LOG, query("t[3].a"), 2, thing), False)
                self.assertIs(trace_holds(log_from(), query("6"), 0, thing), False)
        self.assertIs(trace_holds(log_from(), query("6"), 0, (6, ())), True)

    def test_a_chain_of_400_statements(self):
        log = chain("put t[1].a = count(s, 1)", *["put t[1].a = (t[1].a + 1)"] * (MANY - 1))
        value, entries = trace_of(log, query("t[1].a"), MANY)
        self.assertIs(trace_holds(log, query("t[1].a"), MANY, (value, entries)), True)
        for place in (0, 1, 200, 398, 399):
            self.assertIs(trace_holds(log, query("t[1].a"), MANY, (value, entries[:place] + entries[place + 1:])), False)
            wrong = entries[:place] + (((place, "value"), place + 1),) + entries[place + 1:]
            self.assertIs(trace_holds(log, query("t[1].a"), MANY, (value, wrong)), False)
        # All of them one too much, each right if the one before were.
        wrong = tuple((slot, told + 1) for slot, told in entries)
        self.assertIs(trace_holds(log, query("t[1].a"), MANY, (value + 1, wrong)), False)
        self.assertIs(trace_holds(log, query("7"), MANY, (7, entries)), True)
        self.assertIs(trace_holds(log, query("t[1].a"), 200, (199, entries)), True)


class RandomTest(unittest.TestCase):

    def test_held_against_the_document(self):
        """Entries by chance: the trace holds if all of them, and the look, are right with them alone."""
        counts = {True: 0, False: 0}
        for seed in range(400):
            draw = random.Random(seed)
            log = random_log(draw)
            look, position = expression(draw, 4), log[0][-1]
            self.assertIs(is_plain(look), True)
            value, entries = trace_of(log, look, position)
            for _ in range(5):
                other = dict(entries)
                more = trace_of(log, expression(draw, 4), position)[1]
                other.update(draw.sample(more, draw.randint(0, len(more))))
                if draw.random() < 0.5:
                    other = dict(draw.sample(sorted(other.items()), draw.randint(0, len(other))))
                if draw.random() < 0.2 and other:
                    other[draw.choice(sorted(other))] += draw.choice((-1, 1))
                told = tuple(sorted(other.items()))
                wanted = self.holds(log, look, position, value, told)
                self.assertIs(trace_holds(log, look, position, (value, told)), wanted)
                counts[wanted] += 1
        self.assertGreater(min(counts.values()), 200)

    def holds(self, log, look, position, value, entries):
        for slot, told in entries:
            if SlowLog(log, entries).evaluated(expression_of(log, slot), slot[0]) != (told, ()):
                return False
        return SlowLog(log, entries).evaluated(look, position) == (value, ())


if __name__ == "__main__":
    unittest.main()
