"""Point 28 (with 18 and 19), lookdone/workers.py, and the work of a store."""

import random
import unittest

from lookdone.errors import NotKept
from lookdone.evaluation import evaluated, needed, value_of
from lookdone.stores import LazyStore
from lookdone.workers import worked
from lookdone.statementtexts import read_transaction
from tests.randomlogs import random_log, standing
from tests.samples import KEY, ONE
from tests.slow import SlowLog
from tests.texts import asked_twice, chain, log_from, query

# t[3].a needs the let, then the key that hangs on it; b and c hang on lets of their own.
LINES = (
    "let x = count(s, 1)\nput t[if((x < 5), 3, 4)].a = 6\nlet y = count(s, 1)\nput t[1].b = (y + x)\n"
    "let z = count(s, 1)\nput t[1].c = (z + 1)"
)
LOG = log_from(LINES)

X, Y, Z = (0, "let"), (2, "let"), (4, "let")
A, B, C = (1, "key"), (3, "value"), (5, "value")


class WorkersTest(unittest.TestCase):

    def check(self, log, looks, turns, values, begun, entries=()):
        """The looks are texts, at the end of the log, or (expression, position)."""
        looks = tuple((query(look), log[0][-1]) if isinstance(look, str) else look for look in looks)
        with self.subTest(looks=looks, turns=turns, entries=entries):
            found = asked_twice(self, worked, log, looks, turns, entries=entries)
            self.assertEqual(found, (values, begun))
            self.assertEqual(SlowLog(log, entries).worked(looks, turns), found)
            self.check_slots(log, looks, found, entries)

    def check_slots(self, log, looks, found, entries=()):
        """The values, and just the slots that are needed and not known, none of them twice."""
        self.assertEqual(found[0], tuple(value_of(log, *look) for look in looks))
        slots = sorted(slot for slot, _ in found[1])
        wanted = {slot for look in looks for slot in needed(log, *look)} - {slot for slot, _ in entries}
        self.assertEqual(slots, sorted(wanted))
        for slot, number in found[1]:
            self.assertIn(slot, needed(log, *looks[number]))


class FewTest(WorkersTest):

    def test_none(self):
        self.check(LOG, (), (), (), ())
        self.check(log_from(), (), (), (), ())

    def test_one(self):
        for turns in ((), (0,), (0, 0), (0,) * 20):
            self.check(LOG, ("t[3].a",), turns, (6,), ((A, 0), (X, 0)))
            self.check(LOG, ("7",), turns, (7,), ())
            self.check(LOG, ("t[1].b",), turns, (0,), ((B, 0), (Y, 0), (X, 0)))

    def test_positions(self):
        text = query("t[3].a")
        self.check(LOG, ((text, 0), (text, 1), (text, 2)), (2, 0, 1), (0, 0, 6), ((A, 2), (X, 2)))
        self.check(LOG, ((("let", 0), 1), (("let", 2), 3)), (1,), (0, 0), ((Y, 1), (X, 0)))


class TurnsTest(WorkersTest):

    def test_turns_go_round(self):
        self.check(LOG, ("t[3].a", "t[1].b"), (), (6, 0), ((A, 0), (B, 1), (X, 0), (Y, 1)))
        self.check(LOG, ("t[1].b", "t[3].a"), (), (0, 6), ((B, 0), (A, 1), (Y, 0), (X, 1)))
        self.check(LOG, ("t[3].a", "t[1].b", "t[1].c"), (), (6, 0, 1), ((A, 0), (B, 1), (C, 2), (X, 0), (Y, 1), (Z, 2)))

    def test_step_by_step(self):
        looks = ("t[3].a", "t[1].b")
        for turns, begun in (
            ((0,), ((A, 0), (X, 0), (B, 1), (Y, 1))),
            ((1,), ((B, 1), (A, 0), (Y, 1), (X, 0))),
            ((0, 0), ((A, 0), (X, 0), (B, 1), (Y, 1))),
            ((0, 1), ((A, 0), (B, 1), (X, 0), (Y, 1))),
            ((1, 0), ((B, 1), (A, 0), (X, 0), (Y, 1))),
            ((1, 1), ((B, 1), (Y, 1), (A, 0), (X, 1))),
            # With its third turn worker 1 ends y and begins x, for which worker 0 waits.
            ((1, 1, 1), ((B, 1), (Y, 1), (X, 1), (A, 0))),
            ((1, 1, 1, 1), ((B, 1), (Y, 1), (X, 1), (A, 0))),
            ((0, 1, 1), ((A, 0), (B, 1), (Y, 1), (X, 0))),
            ((0, 1, 1, 1), ((A, 0), (B, 1), (Y, 1), (X, 1))),
        ):
            self.check(LOG, looks, turns, (6, 0), begun)

    def test_turns_end_early(self):
        """After the given turns they go round from worker 0, whoever had the last one."""
        self.check(LOG, ("t[3].a", "t[1].b", "t[1].c"), (1,), (6, 0, 1),
                   ((B, 1), (A, 0), (Y, 1), (C, 2), (X, 0), (Z, 2)))
        self.check(LOG, ("t[3].a", "t[1].b", "t[1].c"), (0,), (6, 0, 1),
                   ((A, 0), (X, 0), (B, 1), (C, 2), (Y, 1), (Z, 2)))
        self.check(LOG, ("t[3].a", "t[1].b", "t[1].c"), (2, 2), (6, 0, 1),
                   ((C, 2), (Z, 2), (A, 0), (B, 1), (X, 0), (Y, 1)))

    def test_turns_of_a_worker_that_is_done(self):
        looks = ("7", "t[3].a")
        self.check(LOG, looks, (0, 0, 0, 1, 0, 1), (7, 6), ((A, 1), (X, 1)))
        looks = ("t[1].c", "t[3].a", "t[1].b")
        done = ((C, 0), (Z, 0))
        self.check(LOG, looks, (0, 0, 0, 0, 0), (1, 6, 0), (*done, (A, 1), (B, 2), (X, 1), (Y, 2)))
        self.check(LOG, looks, (0, 0, 0, 0, 2), (1, 6, 0), (*done, (B, 2), (A, 1), (Y, 2), (X, 1)))

    def test_more_turns_than_are_needed(self):
        self.check(LOG, ("t[3].a", "t[1].c"), (1, 0) * 1000, (6, 1), ((C, 1), (A, 0), (Z, 1), (X, 0)))


class SharedTest(WorkersTest):

    def test_example(self):
        store = LazyStore()
        store.commit(read_transaction("let x = count(s, 1)\nput t[if((x < 5), 3, 4)].a = 6"))
        found = store.work((query("t[3].a"), None), (query("t[4].a"), None), turns=(0, 1))
        self.assertEqual(found, ((6, 0), (((1, "key"), 0), ((0, "let"), 0))))

    def test_the_same_look(self):
        for turns, number in (((), 0), ((0, 1), 0), ((1,), 1), ((1, 0, 2), 1), ((2, 2), 2)):
            found = worked(LOG, ((query("t[3].a"), 6),) * 3, turns)
            self.assertEqual(found[0], (6, 6, 6))
            self.assertEqual(found[1][0], (A, number))
            self.check(LOG, ("t[3].a",) * 3, turns, *found)
            # Nobody else can begin what the one that began the key needs for it.
            self.assertEqual(found[1], ((A, number), (X, number)))

    def test_who_waits_begins_nothing(self):
        looks = ("t[3].a", "(t[3].a + t[1].c)")
        self.check(LOG, looks, (0, 1, 1, 1, 1), (6, 7), ((A, 0), (X, 0), (C, 1), (Z, 1)))
        self.check(LOG, looks, (0, 1, 1, 0, 1, 0, 1), (6, 7), ((A, 0), (X, 0), (C, 1), (Z, 1)))
        self.check(LOG, looks, (1, 0, 0), (6, 7), ((A, 1), (X, 1), (C, 1), (Z, 1)))

    def test_who_waited_goes_on_in_its_own_turn(self):
        # Worker 1 waits for the key that worker 0 has begun, until worker 0 has ended it.
        looks = ("(t[3].a + t[1].b)", "(t[3].a + t[1].c)")
        self.check(LOG, looks, (0, 1, 0, 1, 0, 1, 0), (6, 7), ((A, 0), (X, 0), (B, 0), (C, 1), (Y, 0), (Z, 1)))
        self.check(LOG, looks, (0, 1, 0, 1, 0, 0, 0, 1), (6, 7), ((A, 0), (X, 0), (B, 0), (Y, 0), (C, 1), (Z, 1)))

    def test_a_slot_that_another_one_has_ended(self):
        looks = ("t[1].b", "(t[3].a + t[1].b)")
        self.check(LOG, looks, (0,) * 5, (0, 6), ((B, 0), (Y, 0), (X, 0), (A, 1)))
        self.check(LOG, looks, (1,) * 9, (0, 6), ((A, 1), (X, 1), (B, 1), (Y, 1)))

    def test_all_that_is_said_of_aggregates_and_rows(self):
        log = log_from(
            "let x = count(s, 1)\nput t[(x + 1)].in = 1\nput t[2].in = (x + 1)\neach t if (key < (x + 2)) put a = (key + x)"
        )
        looks = ("sum(t, 1, t[key].a)", "t[1].a", "first(t, t[key].a, 0)")
        for turns in ((), (1,), (2, 1), (1, 1, 1, 2, 2, 0), (0, 1, 2, 2, 1, 0, 0, 1)):
            placed = tuple((query(look), 4) for look in looks)
            found = asked_twice(self, worked, log, placed, turns)
            self.assertEqual(found, SlowLog(log).worked(placed, turns))
            self.check_slots(log, placed, found)
            self.assertEqual(found[0], (1, 1, 1))


class KnownTest(WorkersTest):

    def test_entries(self):
        x, a, y = (X, 0), (A, 3), (Y, 0)
        looks = ("t[3].a", "t[1].b")
        self.check(LOG, looks, (), (6, 0), ((A, 0), (B, 1), (Y, 1)), entries=(x,))
        self.check(LOG, looks, (), (6, 0), ((B, 1), (Y, 1)), entries=(x, a))
        self.check(LOG, looks, (), (6, 0), ((B, 1),), entries=(x, a, y))
        self.check(LOG, looks, (0, 1), (6, 0), (), entries=(x, a, y, (B, 0)))
        self.check(LOG, looks, (1, 1), (6, 0), ((B, 1), (A, 0)), entries=(x, y))

    def test_complete_beginnings(self):
        for seed in range(100):
            draw = random.Random(seed)
            log = random_log(draw)
            looks = tuple(standing(draw, log) for _ in range(3))
            found = evaluated(log, *looks[0])[1]
            entries = tuple(sorted(found[:draw.randint(0, len(found))]))
            turns = tuple(draw.randrange(3) for _ in range(draw.randrange(9)))
            told = worked(log, looks, turns, entries=entries)
            self.assertEqual(told, SlowLog(log, entries).worked(looks, turns))
            self.check_slots(log, looks, told, entries)


class ChainTest(WorkersTest):

    def test_a_chain_of_400_statements(self):
        log = chain("put t[1].a = count(s, 1)", *["put t[1].a = (t[1].a + 1)"] * 399)
        looks = tuple((query("t[1].a"), position) for position in (100, 200, 300, 400))
        for turns in ((), (0, 1, 2, 3) * 500, (3, 2, 1, 0) * 100, (3,) * 600):
            values, begun = worked(log, looks, turns)
            self.assertEqual(values, (99, 199, 299, 399))
            self.assertEqual(sorted(slot for slot, _ in begun), [(place, "value") for place in range(400)])
        self.assertEqual(begun[0], ((399, "value"), 3))
        self.assertEqual(begun, tuple(((place, "value"), 3) for place in reversed(range(400))))

    def test_who_waits_for_a_long_time(self):
        log = chain("put t[1].a = count(s, 1)", *["put t[1].a = (t[1].a + 1)"] * 399)
        looks = ((query("t[1].a"), 400),) * 8
        values, begun = worked(log, looks, (5, 7, 6, 0))
        self.assertEqual(values, (399,) * 8)
        self.assertEqual({number for _, number in begun}, {5})
        self.assertEqual(len(begun), 400)


class RandomTest(WorkersTest):

    def test_held_against_the_slow_one(self):
        shared = 0
        for seed in range(500):
            draw = random.Random(seed)
            log = random_log(draw)
            looks = tuple(standing(draw, log) for _ in range(draw.randrange(4)))
            looks += looks[:draw.randrange(2)]
            turns = tuple(draw.randrange(len(looks)) for _ in range(draw.randrange(20))) if looks else ()
            wanted = SlowLog(log).worked(looks, turns)
            with self.subTest(log=log, looks=looks, turns=turns):
                self.assertEqual(worked(log, looks, turns), wanted)
                self.check_slots(log, looks, wanted)
            shared += len({number for _, number in wanted[1]}) > 1
        self.assertGreater(shared, 30)


class StoreTest(unittest.TestCase):

    def setUp(self):
        self.store = LazyStore()
        self.store.keep()
        self.store.commit(read_transaction(LINES))

    def test_moments(self):
        text = query("t[3].a")
        self.assertEqual(self.store.work((text, 0), (text, None), (text, 1)), ((0, 6, 6), ((A, 1), (X, 1))))
        self.assertEqual(self.store.work(), ((), ()))

    def test_not_kept(self):
        text = query("t[3].a")
        self.store.run()
        for moments, wanted in (
            ((None, 1), 1), ((3,), 3), ((-1, 1), -1), ((0, 2, 5, 1), 5), ((True,), True), ((None, False), False),
            (("0",), "0"),
        ):
            with self.assertRaises(NotKept) as raised:
                self.store.work(*[(text, moment) for moment in moments], turns=(0,))
            self.assertIs(raised.exception.wanted, wanted)
            self.assertEqual(self.store.journal, ())

    def test_the_journal(self):
        looks = [(query("t[3].a"), None), (query("t[1].b"), None)]
        self.assertEqual(self.store.work(*looks, turns=(0, 1, 1))[1], ((A, 0), (B, 1), (Y, 1), (X, 0)))
        self.assertEqual(self.store.journal, ((Y, 0), (X, 0), (A, 3), (B, 0)))
        # Known slots are not begun again.
        self.assertEqual(self.store.work(*looks, (query("t[1].c"), 1)), ((6, 0, 1), ((C, 2), (Z, 2))))
        self.assertEqual(self.store.journal[4:], ((Z, 0), (C, 1)))
        self.assertEqual(self.store.look(query("t[1].c")), 1)
        self.assertEqual(len(self.store.journal), 6)

    def test_after_other_looks(self):
        self.store.look(query("t[1].b"))
        self.assertEqual(self.store.work((query("t[3].a"), None)), ((6,), ((A, 0),)))
        self.assertEqual(self.store.journal, ((Y, 0), (X, 0), (B, 0), (A, 3)))
        closed = ("at", ONE, ("cell", "t", KEY, "c"))
        self.assertEqual(self.store.work((closed, None), (closed, 1), turns=(1, 0, 0)), ((1, 1), ((C, 1), (Z, 1))))


if __name__ == "__main__":
    unittest.main()
