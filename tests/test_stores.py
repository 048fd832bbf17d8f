"""Points 20 to 23 and 28: lookdone/stores.py, but for cuts and restarts."""

import random
import unittest

from lookdone.errors import NoSlot, NotKept, Refused
from lookdone.evaluation import needed, value_of
from lookdone.logs import is_log
from lookdone.plain import PlainStore
from lookdone.slots import expression_of, is_slot
from lookdone.statementtexts import read_transaction
from lookdone.stores import LazyStore
from tests.randomlogs import expression, rows, transaction
from tests.samples import L, ONE, OTHER_THINGS
from tests.slowstore import SlowView
from tests.texts import query


class StoreTest(unittest.TestCase):

    def setUp(self):
        self.store = LazyStore()

    def commit(self, text):
        return self.store.commit(read_transaction(text))

    def look(self, text, **moment):
        return self.store.look(query(text), **moment)

    def refused(self, text, number):
        before = (self.store.log, self.store.moment, self.store.kept)
        with self.assertRaises(Refused) as raised:
            self.commit(text)
        self.assertEqual(raised.exception.number, number)
        self.assertEqual((self.store.log, self.store.moment, self.store.kept), before)


class NewTest(StoreTest):

    def test_at_first(self):
        store = self.store
        self.assertEqual((store.log, store.journal, store.moment, store.kept), (((0,), ()), (), 0, ()))
        self.assertEqual((self.look("t[1].a"), self.look("count(t, 1)", moment=0), store.journal), (0, 0, ()))

    def test_properties_are_up_to_date_and_not_shared(self):
        store, other = LazyStore(), LazyStore()
        store.run(("put", "t", ONE, "a", ONE))
        store.keep()
        self.assertEqual((store.log, store.moment, store.kept),
                         (((0, 1), ((0, ("put", "t", ONE, "a", ONE)),)), 1, (1,)))
        self.assertEqual((other.log, other.moment, other.kept), (((0,), ()), 0, ()))
        for name in ("log", "journal", "moment", "kept"):
            with self.assertRaises(AttributeError):
                setattr(store, name, ())


class CommitTest(StoreTest):

    def test_examples(self):
        self.assertEqual((self.commit("put t[1].a = 2\nneed (t[1].a < 3)\ntell t[1].a"), self.store.journal),
                         ((2,), ()))

    def test_nothing_is_evaluated(self):
        for text in ("let x = count(s, 1)\nput t[x].in = x", "each t if 1 put a = 9", "", "put s[t[0].a].in = 1"):
            self.assertEqual(self.commit(text), ())
        self.assertEqual((self.store.moment, self.store.journal), (4, ()))
        self.assertEqual(self.store.log[0], (0, 2, 3, 3, 4))
        self.assertIs(is_log(self.store.log), True)

    def test_tells(self):
        self.assertEqual(self.commit("tell 1\nlet x = count(s, 1)\ntell x\ntell (x + 2)"), (1, 0, 2))
        self.assertEqual(self.store.journal, (((1, "let"), 0), ((2, "tell"), 0), ((3, "tell"), 2)))

    def test_run(self):
        self.assertEqual((self.store.run(), self.store.run(("tell", ("int", 3)))), ((), (3,)))
        self.assertEqual((self.store.moment, self.store.log), (2, ((0, 0, 1), ((0, ("tell", ("int", 3))),))))
        with self.assertRaises(Refused) as raised:
            self.store.run(("tell", ONE), ("need", ("int", 0)))
        self.assertEqual(raised.exception.number, 1)

    def test_needs_of_which_the_span_decides(self):
        # x + 1 is not 0, though its value is not known.
        self.assertEqual(self.commit("let x = count(s, 1)\nneed (x + 1)\nneed 5"), ())
        self.assertEqual(self.store.journal, ())
        self.refused("let x = count(s, 1)\nneed (x + 1)\nneed (x < 0)", 2)
        self.refused("need 0", 0)
        self.assertEqual(self.store.journal, ())

    def test_needs_that_are_asked(self):
        self.assertEqual(self.commit("let x = count(s, 1)\nneed (x = 0)\ntell x"), (0,))
        self.assertEqual(self.store.journal, (((0, "let"), 0), ((1, "need"), 1), ((2, "tell"), 0)))

    def test_needs_come_before_tells(self):
        self.assertEqual(self.commit("let x = count(s, 1)\nlet y = count(s, 1)\ntell (y + 1)\nneed (x < 1)"), (1,))
        journal = (((0, "let"), 0), ((3, "need"), 1), ((1, "let"), 0), ((2, "tell"), 1))
        self.assertEqual(self.store.journal, journal)
        self.refused("let x = count(s, 1)\ntell x\nneed 0\nneed (x < 1)", 2)
        self.assertEqual(self.store.journal, journal)

    def test_the_first_need_that_does_not_hold(self):
        self.commit("let x = count(s, 1)\nput t[1].a = x\nlet y = count(s, 1)\nput t[2].a = y\nput t[3].a = (y + 1)")
        self.refused("need (t[1].a = 0)\nneed t[2].a\nneed t[3].a\nneed 0", 1)
        # What stands below stays evaluated; the need at 3 was not asked.
        self.assertEqual(self.store.journal, (((0, "let"), 0), ((1, "value"), 0), ((2, "let"), 0), ((3, "value"), 0)))

    def test_refused_ones_leave_nothing(self):
        self.commit("put t[1].a = count(s, 1)")
        self.refused("let x = t[1].a\nput t[1].a = 7\nneed (x + count(s, 1))", 2)
        self.assertEqual(self.store.journal, (((0, "value"), 0),))
        self.assertEqual(self.look("t[1].a"), 0)
        # The next one takes the same positions.
        self.commit("let x = (count(s, 1) + 3)\nput t[1].a = x")
        self.assertEqual(self.store.log[0], (0, 1, 3))
        self.assertEqual(self.look("t[1].a"), 3)
        self.assertEqual(self.store.journal, (((0, "value"), 0), ((1, "let"), 3), ((2, "value"), 3)))


class LookTest(StoreTest):

    def test_examples(self):
        self.commit("put s[1].in = 1")
        self.commit("let x = count(s, 1)\nput t[x].a = (x + x)")
        self.assertEqual(self.look("t[1].a"), 2)
        self.assertEqual(self.store.journal, (((1, "let"), 1), ((2, "key"), 1), ((2, "value"), 2)))
        self.store = LazyStore()
        self.commit("let x = count(s, 1)\nput t[1].a = x")
        self.commit("put t[1].a = 9")
        self.assertEqual((self.look("t[1].a"), self.store.journal), (9, ()))
        self.store = LazyStore()
        self.store.keep()
        self.commit("put t[1].a = 5")
        self.assertEqual((self.look("t[1].a", moment=0), self.look("t[1].a"), self.store.kept), (0, 5, (0,)))
        self.store = LazyStore()
        self.commit("put t[1].a = 5")
        self.not_kept(0)

    def not_kept(self, moment):
        before = self.store.journal
        with self.assertRaises(NotKept) as raised:
            self.look("count(t, t[key].a)", moment=moment)
        self.assertIs(raised.exception.wanted, moment)
        self.assertEqual(self.store.journal, before)

    def test_nothing_is_evaluated_twice(self):
        self.commit("let x = count(s, 1)\nput t[x].a = (x + x)")
        for _ in range(3):
            self.assertEqual(self.look("(t[0].a + t[1].a)"), 0)
        self.assertEqual(len(self.store.journal), 3)

    def test_present_moment(self):
        for number in range(4):
            self.assertEqual((self.look("t[1].a"), self.look("t[1].a", moment=number)), (number, number))
            self.commit("put t[1].a = (t[1].a + 1)")
            self.not_kept(number)
            self.not_kept(number + 2)

    def test_moments_that_are_none(self):
        self.store.keep()
        self.commit("put t[1].a = 1")
        self.store.keep()
        for moment in (-1, 2, 10 ** 39, True, False, "0", "", (0,), [0], {}):
            self.not_kept(moment)

    def test_kept_moments(self):
        for number in range(3):
            self.assertEqual(self.store.keep(), number)
            self.commit(f"put t[1].a = (count(s, 1) + {number + 1})")
        self.assertEqual(self.store.kept, (0, 1, 2))
        self.assertEqual([self.look("t[1].a", moment=number) for number in (2, 0, 1, 3, None)], [2, 0, 1, 3, 3])
        self.assertIsNone(self.store.free(1))
        self.assertEqual(self.store.kept, (0, 2))
        self.not_kept(1)

    def test_however_often_it_was_kept(self):
        for _ in range(3):
            self.assertEqual(self.store.keep(), 0)
        self.assertEqual(self.store.kept, (0,))
        self.store.free(0)
        self.assertEqual(self.store.kept, ())
        # The present moment is not kept by being present, but it can be looked at.
        self.assertEqual(self.look("t[1].a", moment=0), 0)
        for moment in (0, 1, -1, None, True, False, "0", [0]):
            with self.assertRaises(NotKept) as raised:
                self.store.free(moment)
            self.assertIs(raised.exception.wanted, moment)
        self.store.keep()
        with self.assertRaises(NotKept):
            self.store.free(False)
        self.assertEqual(self.store.kept, (0,))


class EarlyTest(StoreTest):

    def setUp(self):
        self.store = LazyStore()
        self.commit("put t[1].in = (count(s, 1) + 1)\nlet x = count(s, 1)\neach t if ((x + key) = 1) put a = (key + x)\nneed 1")

    def test_slots(self):
        for slot, value, many in (
            ((0, "key"), 1, 0), ((3, "need"), 1, 0), ((2, "guard", 5), 0, 0), ((1, "let"), 0, 1),
            ((2, "guard", 1), 1, 2),
            ((2, "value", 7), 7, 3), ((2, "value", -L), -L, 4), ((0, "value"), 1, 5), ((2, "guard", 1), 1, 5),
            ((1, "let"), 0, 5),
            ((2, "guard", -L), 0, 5),
        ):
            with self.subTest(slot=slot):
                self.assertEqual(self.store.early(slot), value)
                self.assertEqual(len(self.store.journal), many)
        self.assertEqual([slot for slot, _ in self.store.journal], [
            (1, "let"), (2, "guard", 1), (2, "value", 7), (2, "value", -L), (0, "value"),
        ])
        self.assertEqual(self.look("t[1].a"), 1)
        self.assertEqual(self.store.journal[5:], (((2, "value", 1), 1),))

    def test_no_slot(self):
        more = ((1, "key"), (4, "let"), (0, "value", 1), (2, "guard"), (2, "value", L + 1), (True, "let"), [1, "let"])
        for thing in OTHER_THINGS + more:
            with self.assertRaises(NoSlot) as raised:
                self.store.early(thing)
            self.assertIs(raised.exception.slot, thing)
        self.assertEqual(self.store.journal, ())
        with self.assertRaises(NoSlot):
            LazyStore().early((0, "let"))

    def test_example(self):
        store = LazyStore()
        store.commit(read_transaction("let x = count(s, 1)"))
        with self.assertRaises(NoSlot) as raised:
            store.early((0, "key"))
        self.assertEqual(raised.exception.slot, (0, "key"))


class RandomTest(unittest.TestCase):

    def test_held_against_the_slow_one_and_the_plain_store(self):
        evaluated = 0
        for seed in range(300):
            draw = random.Random(seed)
            lazy, slow, plain = LazyStore(), SlowView(), PlainStore()
            first = rows(draw)
            self.assertEqual((lazy.commit(first), slow.do(first), plain.commit(first)), ((), (), ()))
            for _ in range(draw.randrange(4, 14)):
                self.step(draw, lazy, slow, plain)
                self.assertEqual(lazy.journal, tuple(slow.journal))
                self.assertEqual((lazy.log, lazy.moment), (slow.log(), plain.moment))
            self.check_journal(lazy)
            evaluated += len(lazy.journal)
        self.assertGreater(evaluated, 500)

    def step(self, draw, lazy, slow, plain):
        word = draw.choice(("commit", "commit", "look", "look", "keep", "free", "early", "work"))
        moments = (None, lazy.moment) + lazy.kept
        if word == "commit":
            one = transaction(draw, draw.randrange(6))
            wanted = slow.do(one)
            for store in (lazy, plain):
                try:
                    self.assertEqual(store.commit(one), wanted)
                except Refused as refused:
                    self.assertEqual([refused.number], wanted)
        elif word == "look":
            look, moment = expression(draw, 4), draw.choice(moments)
            value = plain.value(look, moment=moment)
            self.assertEqual((lazy.look(look, moment=moment), slow.look(look, moment)), (value, value))
        elif word == "keep":
            self.assertEqual(lazy.keep(), plain.moment)
        elif word == "free" and lazy.kept:
            lazy.free(draw.choice(lazy.kept))
        elif word == "early" and lazy.log[1]:
            slot = self.random_slot(draw, lazy.log)
            self.assertEqual(lazy.early(slot), slow.ask(slot))
        elif word == "work":
            looks = [(expression(draw, 4), draw.choice(moments)) for _ in range(draw.randrange(4))]
            turns = tuple(draw.randrange(len(looks)) for _ in range(draw.randrange(6))) if looks else ()
            self.assertEqual(lazy.work(*looks, turns=turns), slow.work(looks, turns))

    def random_slot(self, draw, log):
        position, statement = draw.choice(log[1])
        word = draw.choice({"put": ("key", "value"), "each": ("guard", "value")}.get(statement[0], (statement[0],)))
        return (position, word, draw.randrange(4)) if statement[0] == "each" else (position, word)

    def check_journal(self, store):
        """Each slot once, with its value, and behind all that it needs."""
        before = set()
        for slot, value in store.journal:
            self.assertIs(is_slot(store.log, slot), True)
            self.assertNotIn(slot, before)
            standing = (expression_of(store.log, slot), slot[0])
            self.assertEqual(value_of(store.log, *standing), value)
            self.assertLessEqual(set(needed(store.log, *standing)), before)
            before.add(slot)


if __name__ == "__main__":
    unittest.main()
