"""Point 25: cut_look of lookdone/leading.py, and the looks of a store with a cut."""

import random
import unittest

from lookdone.errors import NotKept, Refused, TooLarge
from lookdone.evaluation import evaluated, needed, value_of
from lookdone.leading import cut_look, led_back
from lookdone.stores import LazyStore
from lookdone.statementtexts import read_transaction
from tests.randomlogs import expression, random_log, rows, standing, transaction
from tests.samples import KEY, L, ONE
from tests.slow import SlowLog
from tests.slowleading import slow_way
from tests.slowwhole import SlowWhole
from tests.test_chains import MANY, lets
from tests.texts import asked_twice, chain, log_from, query

LOG = log_from("let x = count(s, 1)\nput t[if((x < 5), 3, 4)].a = 6")
X, A = (0, "let"), (1, "key")


class CutTest(unittest.TestCase):

    def check(self, log, text, position=None):
        """At every cut the value, and of the needed slots just those below it."""
        look = query(text) if isinstance(text, str) else text
        position = log[0][-1] if position is None else position
        value, slots = value_of(log, look, position), needed(log, look, position)
        for cut in range(position + 1):
            with self.subTest(look=look, cut=cut):
                wanted = (value, tuple(slot for slot in slots if slot[0] < cut))
                self.assertEqual(asked_twice(self, cut_look, log, look, position, cut), wanted)
        return slots

    def test_examples(self):
        self.assertEqual((cut_look(LOG, query("t[3].a"), 2, 1), cut_look(LOG, query("t[3].a"), 2, 0)),
                         ((6, (X,)), (6, ())))

    def test_at_the_position_itself(self):
        self.assertEqual(cut_look(LOG, query("t[3].a"), 2, 2), (6, (X, A)))
        self.assertEqual(cut_look(LOG, query("t[3].a"), 1, 1), (0, ()))
        self.assertEqual(cut_look(log_from(), query("t[3].a"), 0, 0), (0, ()))

    def test_each_statement(self):
        log = log_from(
            "let x = count(s, 1)\nput t[(x + 1)].in = (x + 1)\nput t[(x + 2)].a = t[1].in",
            "let x = t[1].in\neach t if (key < (x + 1)) put a = (t[key].a + x)\nneed (x = 1)\ntell t[1].a",
        )
        self.check(log, "(t[1].a + sum(t, 1, t[key].a))")
        self.check(log, "first(t, t[key].a, t[2].a)")
        self.check(log, "most(t, t[key].b, 1, t[2].a)")
        self.check(log, query("(x + y)", x=0, y=3))
        self.check(log, query("(x + y)", x=0, y=3), 5)

    def test_in_the_middle_of_a_transaction(self):
        log = log_from("let x = count(s, 1)\nlet y = (x + 1)\nput t[y].a = (y + x)\nlet z = t[1].a\nput t[2].a = z")
        self.assertEqual(cut_look(log, query("t[2].a"), 5, 3), (1, ((0, "let"), (1, "let"), (2, "key"), (2, "value"))))
        self.assertEqual(cut_look(log, query("t[2].a"), 5, 2), (1, ((0, "let"), (1, "let"))))
        self.assertEqual(cut_look(log, query("t[2].a"), 5, 1), (1, ((0, "let"),)))
        self.check(log, "t[2].a")

    def test_random_logs(self):
        """The same as what is led back has and needs at the cut, wherever that is not too large."""
        seen = 0
        for seed in range(300):
            draw = random.Random(seed)
            log = random_log(draw)
            look, position = standing(draw, log)
            slots = self.check(log, look, position)
            for number, back in enumerate(slow_way(log, look, position, 0)):
                found = cut_look(log, look, position, position - number)
                value, ended = SlowLog(log).evaluated(back, position - number)
                self.assertEqual(found, (value, tuple(sorted(slot for slot, _ in ended))))
            seen += len(slots)
        self.assertGreater(seen, 200)

    def test_too_large_is_never_raised(self):
        log = chain("put t[1].a = (count(s, 1) + 1)", *["put t[1].a = (t[1].a * t[1].a)"] * 60)
        with self.assertRaises(TooLarge):
            led_back(log, query("t[1].a"), 61, 0)
        self.assertEqual(self.check(log, "t[1].a"), tuple((place, "value") for place in range(61)))
        deep = ("+", ONE, ONE)
        for _ in range(120):
            deep = ("+", deep, ("cell", "t", ONE, "a"))
        self.assertEqual(cut_look(log, deep, 61, 1), (122, ((0, "value"),)))


class ChainTest(unittest.TestCase):
    """Chains of 400 statements; at a cut the same statement is met again and again."""

    def check(self, log, text):
        self.assertEqual(len(log[1]), MANY)
        look, end = query(text), log[0][-1]
        value, slots = value_of(log, look, end), needed(log, look, end)
        for cut in (0, 1, 2, 3, 57, 199, 200, 201, 398, 399, 400):
            self.assertEqual(cut_look(log, look, end, cut), (value, tuple(slot for slot in slots if slot[0] < cut)))

    def test_puts(self):
        self.check(chain("put t[1].a = count(s, 1)", *["put t[1].a = (t[1].a + 1)"] * (MANY - 1)), "t[1].a")
        self.check(chain("put t[1].a = (count(s, 1) + 1)", *["put t[1].a = (t[1].a * t[1].a)"] * (MANY - 1)), "t[1].a")

    def test_lets(self):
        self.check(lets(), "t[200].a")

    def test_eaches(self):
        step = "each t if (t[key].in + t[key].in) put in = (t[key].in * t[key].in)"
        self.check(chain("put t[1].in = (count(s, 1) + 1)", *[step] * (MANY - 1)), "t[1].in")
        step = "each t if (t[key].a < 1000) put a = (t[key].a + 1)"
        self.check(chain("put t[1].in = 1", "put t[1].a = count(s, 1)", *[step] * (MANY - 2)), "sum(t, 1, t[key].a)")

    def test_keys_that_are_never_sure(self):
        step = "put t[if((t[1].a < t[2].a), 1, 2)].a = (t[if((t[2].a < 300), 1, 2)].a + 1)"
        self.check(chain("put t[(count(s, 1) + 1)].a = 1", *[step] * (MANY - 1)), "t[1].a")

    def test_aggregates_over_aggregates(self):
        log = chain("put t[1].in = (count(s, 1) + 1)",
                    *["put t[1].in = (count(t, t[key].in) + sum(t, 1, t[key].in))"] * 59,
                    *["put t[2].a = sum(t, 1, (t[key].in * t[key].in))"] * (MANY - 60))
        self.check(log, "(t[1].in + t[2].a)")
        log = chain(*[f"put t[if((count(s, 1) < 1), {key // 8}, 0)].in = count(t, (key < {key}))" for key in range(MANY)])
        self.check(log, "sum(t, (most(t, 1, key, 0) + 1), key)")

    def test_every_cut(self):
        log = chain("put t[1].a = (count(s, 1) + 1)", *["put t[1].a = (t[1].a * t[1].a)"] * (MANY - 1))
        look = query("(t[1].a + t[1].a)")
        for cut in range(MANY + 1):
            self.assertEqual(cut_look(log, look, MANY, cut), (2, tuple((place, "value") for place in range(cut))))


class StoreTest(unittest.TestCase):

    def setUp(self):
        self.store = LazyStore()

    def commit(self, text):
        return self.store.commit(read_transaction(text))

    def look(self, text, **more):
        value = self.store.look(query(text), **more)
        return value, [slot for slot, _ in self.store.journal]

    def test_example(self):
        self.commit("let x = count(s, 1)\nput t[if((x < 5), 3, 4)].a = 6")
        self.assertEqual(self.look("t[3].a", cut=0), (6, []))
        self.assertEqual(self.look("t[3].a", cut=1), (6, [X]))
        self.assertEqual(self.look("t[3].a", cut=2), (6, [X, A]))
        self.assertEqual(self.look("t[3].a", cut=0), (6, [X, A]))

    def test_a_look_after_it_evaluates_the_rest(self):
        for cut in range(4):
            self.store = LazyStore()
            self.commit("let x = count(s, 1)\nput t[1].a = (x + 1)\nput t[2].a = (t[1].a + x)")
            slots = [X, (1, "value"), (2, "value")]
            self.assertEqual(self.look("t[2].a", cut=cut), (1, slots[:cut]))
            self.assertEqual(self.look("t[2].a"), (1, slots))

    def test_the_order_of_evaluation(self):
        # What is led back is (x + 1) + (y + z): its parts from left to right.
        self.commit("let x = count(s, 1)\nlet y = count(s, 1)\nlet z = count(s, 1)")
        self.commit("put t[1].a = (count(s, 1) + 2)\nput t[2].a = count(s, 1)\nput t[3].a = (t[2].a + t[1].a)")
        self.assertEqual(self.look("t[3].a", cut=5), (2, [(4, "value"), (3, "value")]))
        self.assertEqual(self.look("t[3].a", cut=6), (2, [(4, "value"), (3, "value"), (5, "value")]))

    def test_slots_that_were_evaluated_before(self):
        text = "let x = count(s, 1)\nput t[1].a = (x + 1)\nput t[2].a = (t[1].a + x)\nput t[3].a = (t[2].a + 1)"
        slots = [X, (1, "value"), (2, "value"), (3, "value")]
        for first in range(4):
            for cut in range(5):
                self.store = LazyStore()
                self.commit(text)
                self.store.early(slots[first])
                known = slots[:first + 1]
                self.assertEqual([slot for slot, _ in self.store.journal], known)
                more = slots[len(known):cut]
                self.assertEqual(self.look("t[3].a", cut=cut), (2, known + more))
                self.assertEqual(self.look("t[3].a"), (2, slots))

    def test_moments(self):
        self.store.keep()
        self.commit("put t[1].a = count(s, 1)")
        self.store.keep()
        self.commit("put t[1].a = (t[1].a + 1)")
        self.assertEqual(self.look("t[1].a", moment=0, cut=0), (0, []))
        self.assertEqual(self.look("t[1].a", moment=1, cut=0), (0, []))
        self.assertEqual(self.look("t[1].a", moment=2, cut=0), (1, []))
        self.assertEqual(self.look("t[1].a", moment=2, cut=1), (1, [(0, "value")]))
        self.assertEqual(self.look("t[1].a", moment=1, cut=1), (0, [(0, "value")]))
        self.assertEqual(self.look("t[1].a", cut=2), (1, [(0, "value"), (1, "value")]))
        self.store.free(1)
        for moment in (1, 3, -1, True, "0"):
            with self.assertRaises(NotKept) as raised:
                self.store.look(query("t[1].a"), moment=moment, cut=0)
            self.assertIs(raised.exception.wanted, moment)

    def test_a_cut_below_which_nothing_is_needed(self):
        self.commit("put t[5].a = 1\nput t[6].a = 2\nlet x = count(s, 1)\nput t[1].a = x")
        for cut in range(3):
            self.assertEqual(self.look("t[1].a", cut=cut), (0, []))

    def test_a_chain(self):
        self.commit("put t[1].a = (count(s, 1) + 1)")
        for _ in range(133):
            self.store.run(*[("put", "t", ONE, "a", ("*", ("cell", "t", ONE, "a"), ("cell", "t", ONE, "a")))] * 3)
        for cut in (0, 1, 100, 99, 399):
            self.assertEqual(self.look("t[1].a", cut=cut)[0], 1)
            self.assertEqual(len(self.store.journal), max(cut, 100 if cut == 99 else 0))
        self.assertEqual(len(self.look("t[1].a")[1]), 400)

    def test_random_stores(self):
        """Cuts among commits, looks and early requests, held against what is led back step by step."""
        cuts = 0
        for seed in range(150):
            draw = random.Random(seed)
            lazy, slow = LazyStore(), SlowWhole()
            for one in (rows(draw), transaction(draw, 3), transaction(draw, 3)):
                try:
                    told = lazy.commit(one)
                except Refused as refused:
                    told = [refused.number]
                self.assertEqual(told, slow.do(one))
            for _ in range(8):
                look, position = expression(draw, 3), lazy.log[0][-1]
                cut = draw.choice((None, draw.randint(0, position), draw.randint(0, position)))
                wanted = slow.look(look, cut=cut)
                if wanted is not None:
                    self.assertEqual(lazy.look(look, cut=cut), wanted)
                    self.assertEqual(lazy.journal, tuple(slow.journal))
                    cuts += cut is not None
        self.assertGreater(cuts, 300)


class OtherTest(unittest.TestCase):

    def test_cells_that_are_met_again_and_again(self):
        lines = ["put t[1].a = (t[2].a + t[3].a)", "put t[2].a = (t[1].a - t[3].a)", "put t[3].a = (t[1].a + t[2].a)"]
        log = chain("put t[3].a = count(s, 1)", *lines * 133)
        look = query("((t[1].a + t[2].a) * t[3].a)")
        for cut in (0, 1, 200, 400):
            self.assertEqual(cut_look(log, look, 400, cut), (0, tuple((place, "value") for place in range(cut))))

    def test_keys_of_extra(self):
        log = log_from("put t[(count(s, 1) + 3)].in = 1\nput t[(count(s, 1) + 4)].in = 1")
        for look in (("sum", "t", (KEY,), ("cell", "t", KEY, "in"), ONE, KEY),
                     ("sum", "t", (("int", 9),), ONE, ONE, KEY)):
            look = ("at", ONE, look)
            value, found = evaluated(log, look, 2)
            self.assertIn(value, (7, 16))
            self.assertEqual(cut_look(log, look, 2, 1), (value, ((0, "key"),)))
            self.assertEqual(cut_look(log, look, 2, 0), (value, ()))
            self.assertEqual([slot for slot, _ in found], [(1, "key"), (0, "key")])
        self.assertEqual(cut_look(log, ("int", L), 2, 1), (L, ()))


if __name__ == "__main__":
    unittest.main()
