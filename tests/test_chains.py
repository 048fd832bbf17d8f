"""The two warnings of point 2: chains of 400 statements, and what is met again and again."""

import unittest

from lookdone.compacting import compact, live
from lookdone.evaluation import evaluated, needed, value_of
from lookdone.logs import is_log
from lookdone.slots import expression_of, is_slot, may_stand
from lookdone.slotspans import slot_span, span_of
from lookdone.stores import LazyStore
from lookdone.workers import worked
from tests.samples import KEY, L, ONE, deep
from tests.texts import chain, log_from, query

MANY = 400


def names(many):
    """So many variables."""
    letters = "bcdfghjlmn"
    return ["x" + letters[n // 100] + letters[n // 10 - n // 100 * 10] + letters[n % 10] for n in range(many)]


def lets():
    """Each let hangs on the one before; a transaction may have forty, and one let of each is put for the next."""
    lines = []
    for name, before in zip(names(MANY // 2), [None] + names(MANY // 2 - 1)):
        first = "count(s, 1)" if before is None else f"t[{len(lines) // 2}].a"
        lines += [f"let {name} = ({first} + 1)", f"put t[{len(lines) // 2 + 1}].a = {name}"]
    return chain(*lines)


class ChainTest(unittest.TestCase):

    def check(self, log, text, span, value, many):
        """The span, the value, and how many slots are needed; and others that go through the log."""
        self.assertEqual(len(log[1]), MANY)
        self.assertIs(is_log(log), True)
        expression = query(text)
        end = log[0][-1]
        self.assertIs(may_stand(log, expression, end), True)
        self.assertEqual(span_of(log, expression, end), span)
        self.assertEqual(value_of(log, expression, end), value)
        slots = needed(log, expression, end)
        self.assertEqual(len(slots), many)
        self.assertEqual(sorted({slot for slot in slots if is_slot(log, slot)}), list(slots))
        told, found = evaluated(log, expression, end)
        self.assertEqual((told, sorted(slot for slot, _ in found)), (value, list(slots)))
        values, begun = worked(log, ((expression, end), (expression, end)), (1, 0, 1))
        self.assertEqual((values, sorted(slot for slot, _ in begun)), ((value, value), list(slots)))
        self.check_compacted(log, expression, value, found)
        return found

    def check_compacted(self, log, expression, value, found):
        end = len(log[0]) - 1
        for entries in ((), tuple(sorted(found)), tuple(sorted(found[:len(found) // 2]))):
            other = compact(log, (end,), entries=entries)
            self.assertIs(is_log(other), True)
            told, asked = evaluated(other, expression, log[0][-1])
            self.assertEqual(told, value)
            self.assertFalse({slot for slot, _ in asked} & {slot for slot, _ in entries})
            self.assertLessEqual({place for place, _ in other[1]}, set(live(log, (end,), entries=entries)))
            if len(entries) == len(found):
                self.assertEqual(asked, ())

    def test_puts(self):
        log = chain("put t[1].a = count(s, 1)", *["put t[1].a = (t[1].a + 1)"] * (MANY - 1))
        found = self.check(log, "t[1].a", (399, L), 399, MANY)
        self.assertEqual(found, tuple(((place, "value"), place) for place in range(MANY)))
        self.assertEqual(slot_span(log, (200, "value")), (200, L))

    def test_lets(self):
        log = lets()
        self.check(log, "t[200].a", (200, L), 200, MANY)
        self.assertEqual(slot_span(log, (398, "let")), (200, L))

    def test_lets_of_one_transaction(self):
        lines = ["let xbbb = count(s, 1)"]
        lines += [f"let {name} = ({before} + 1)" for name, before in zip(names(MANY)[1:], names(MANY))]
        log = log_from("\n".join(lines))
        self.assertEqual(span_of(log, ("let", 399), MANY), (399, L))
        found = evaluated(log, ("let", 399), MANY)
        self.assertEqual(found, (399, tuple(((place, "let"), place) for place in range(MANY))))
        self.assertEqual(expression_of(log, (399, "let")), ("+", ("let", 398), ONE))

    def test_eaches_on_one_row(self):
        log = chain(
            "put t[1].in = 1", "put t[1].a = count(s, 1)",
            *["each t if (t[key].a < 1000) put a = (t[key].a + 1)"] * (MANY - 2),
        )
        self.check(log, "t[1].a", (0, L), 398, 1 + 2 * (MANY - 2))

    def test_eaches_on_a_row_that_perhaps_goes(self):
        log = chain("put t[1].in = (count(s, 1) + 1)",
                    *["each t if (t[key].in < 1000) put in = (t[key].in + 1)"] * (MANY - 1))
        self.check(log, "t[1].in", (1, L), 400, 1 + 2 * (MANY - 1))

    def test_puts_whose_keys_hang_on_the_ones_before(self):
        log = chain("put t[(count(s, 1) + 1)].a = 1", *["put t[(t[1].a + 1)].a = (t[2].a + 1)"] * (MANY - 1))
        self.check(log, "t[2].a", (0, 400), 399, 799)

    def test_puts_whose_keys_are_never_sure(self):
        step = "put t[if((t[1].a < t[2].a), 1, 2)].a = (t[if((t[2].a < 300), 1, 2)].a + 1)"
        log = chain("put t[(count(s, 1) + 1)].a = 1", *[step] * (MANY - 1))
        self.check(log, "t[1].a", (-L + 1, L), value_of(log, query("t[1].a"), MANY), 798)

    def test_two_ways_at_each_step(self):
        """Each statement reads the one before twice: the ways through them double with each."""
        log = chain("put t[1].a = (count(s, 1) + 1)", *["put t[1].a = (t[1].a * t[1].a)"] * (MANY - 1))
        self.check(log, "t[1].a", (1, L), 1, MANY)
        step = "each t if (t[key].in + t[key].in) put in = (t[key].in * t[key].in)"
        log = chain("put t[1].in = (count(s, 1) + 1)", *[step] * (MANY - 1))
        self.check(log, "t[1].in", (1, L), 1, MANY)

    def test_aggregates_over_aggregates(self):
        log = chain("put t[1].in = (count(s, 1) + 1)",
                    *["put t[1].in = (count(t, t[key].in) + sum(t, 1, t[key].in))"] * 59,
                    *["put t[2].a = sum(t, 1, (t[key].in * t[key].in))"] * (MANY - 60))
        self.check(log, "t[1].in", (-L, L), 60, 60)

    def test_cells_are_met_again_and_again(self):
        step = ["put t[1].a = (t[2].a + t[3].a)", "put t[2].a = (t[1].a - t[3].a)", "put t[3].a = (t[1].a + t[2].a)"]
        log = chain("put t[3].a = count(s, 1)", *step * 133)
        self.check(log, "((t[1].a + t[2].a) * t[3].a)", (-L, L), 0, MANY)


class NestedTest(unittest.TestCase):

    def test_inner_aggregates(self):
        """Three aggregates within one another, over a hundred keys each."""
        rows = [f"put t[{key}].in = (count(s, 1) + 1)" for key in range(100)]
        log = chain(*rows, *[f"put t[{key}].a = (count(s, 1) + {key})" for key in range(100)])
        inner = "sum(t, (t[key].a < 50), t[key].a)"
        middle = f"sum(t, ({inner} < t[key].a), ({inner} + 1))"
        self.assertEqual(value_of(log, query(f"sum(t, ({middle} = 0), ({middle} + t[key].a))"), 200), 4950)
        deepest = "most(t, (t[key].a < 0), 1, (key + 1))"
        middle = f"most(t, (t[key].a < 0), 1, ({deepest} + key))"
        self.assertEqual(value_of(log, query(f"sum(t, 1, {middle})"), 200), 100 + 2 * 4950)
        self.assertEqual(needed(log, query(f"sum(t, 1, {middle})"), 200), ())

    def test_aggregates_whose_keys_hang_on_the_key_around(self):
        inner = ("sum", "s", (KEY,), ONE, ONE, KEY)
        middle = ("sum", "s", (KEY, ("+", KEY, ONE)), ONE, ONE, inner)
        rows = ("cell", "t", KEY, "in")
        log = chain(*[f"put t[{key}].in = 1" for key in range(100)])
        self.assertEqual(value_of(log, ("sum", "t", (), rows, ONE, middle), 100), 2 * 4950 + 100)

    def test_expressions_of_any_depth(self):
        log = log_from("put t[1].in = (count(s, 1) + 1)")
        for wrap, value in (
            (lambda inner: ("+", inner, ("cell", "t", ONE, "in")), 5000),
            (lambda inner: ("if", inner, ONE, ("cell", "t", ONE, "in")), 1),
            (lambda inner: ("at", inner, ("cell", "t", KEY, "in")), 1),
            (lambda inner: ("most", "t", (inner,), ("int", 0), ONE, ONE, ("cell", "t", ONE, "in")), 1),
        ):
            expression = deep(5000, wrap, ("cell", "t", ("int", 0), "in"))
            if value == 1:
                expression = ("if", expression, ONE, ONE)
            self.assertEqual(value_of(log, expression, 1), value)
            low, high = span_of(log, expression, 1)
            self.assertTrue(low <= value <= high)


class StoreTest(unittest.TestCase):

    def test_a_store_of_400_statements(self):
        store = LazyStore()
        store.run(("put", "t", ONE, "a", ("count", "s", (), ("cell", "s", KEY, "in"), ONE)))
        session = store.session()
        step = ("put", "t", ONE, "a", ("+", ("cell", "t", ONE, "a"), ONE))
        for _ in range(100):
            store.run(step, step, step)
        for _ in range(33):
            session.do((step, step, step))
        self.assertEqual(session.look(("cell", "t", ONE, "a")), 99)
        self.assertEqual(store.journal, (((0, "value"), 0),))
        self.assertEqual(store.look(("cell", "t", ONE, "a")), 300)
        self.assertEqual(store.journal, tuple(((place, "value"), place) for place in range(301)))


if __name__ == "__main__":
    unittest.main()
