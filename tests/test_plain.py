"""Points 9, 10 and 11 (with 5 and 6), and lookdone/plain.py."""

import random
import unittest

from lookdone.errors import NotKept, Refused
from lookdone.expressions import keyed
from lookdone.expressiontexts import read_expression
from lookdone.plain import PlainStore
from lookdone.statementtexts import read_transaction
from tests.naive import NaiveStore
from tests.samples import KEY, L, ONE, OTHER_THINGS, ROWS, X, deep, random_expression, random_transaction


def store_of(*texts):
    """A store to which the transactions of these texts were committed."""
    store = PlainStore()
    for text in texts:
        store.commit(read_transaction(text))
    return store


def told(*texts):
    """What the last of these transactions is told."""
    return store_of(*texts[:-1]).commit(read_transaction(texts[-1]))


class PlainTest(unittest.TestCase):

    def check_value(self, store, text, wanted, **moment):
        with self.subTest(text=text, **moment):
            found = store.value(read_expression(text), **moment)
            self.assertEqual(found, wanted)
            self.assertIs(type(found), int)

    def check_told(self, text, *wanted):
        with self.subTest(text=text):
            found = told(text)
            self.assertEqual(found, wanted)
            self.assertIs(type(found), tuple)
            self.assertEqual([type(value) for value in found], [int] * len(wanted))

    def check_refused(self, store, text, number):
        """The transaction is refused, and nothing changes."""
        queries = ("t[1].a", "t[2].a", "t[1].in", "count(t, 1)", "sum(t, 1, key)", "sum(t, 1, t[key].a)", "s[1].a")
        before = (store.moment, [store.value(read_expression(query)) for query in queries])
        with self.subTest(text=text):
            with self.assertRaises(Refused) as refused:
                store.commit(read_transaction(text))
            self.assertEqual(refused.exception.number, number)
            after = (store.moment, [store.value(read_expression(query)) for query in queries])
            self.assertEqual(after, before)
            with self.assertRaises(NotKept):
                store.value(ONE, moment=store.moment + 1)


class ExamplesTest(PlainTest):

    def test_examples(self):
        store = PlainStore()
        first = store.commit(read_transaction("put t[4].in = 1\nput t[4].a = 5\nput t[9].in = 1\nput t[9].a = 7"))
        second = store.commit(
            read_transaction("each t if (t[key].a < 6) put a = (t[key].a * 10)\ntell sum(t, 1, t[key].a)")
        )
        self.assertEqual((first, second), ((), (57,)))
        self.check_refused(PlainStore(), "put t[1].a = 2\nneed (t[1].a < 2)", 1)
        store = PlainStore()
        self.assertEqual((store.run(), store.run(("tell", ("int", 3))), store.moment), ((), (3,), 2))


class StatementsTest(PlainTest):

    def test_cells_are_zero_at_first(self):
        for text in ("t[0].in", "t[-5].a", f"zz[{L}].in", "count(t, 1)", "sum(t, 1, 1)", "first(t, 1, 0)"):
            self.check_value(PlainStore(), text, 0)

    def test_let(self):
        self.check_told("let x = 3\ntell (x + x)", 6)
        self.check_told("let x = 3\nlet y = (x * 2)\nlet z = (y - x)\ntell z\ntell y", 3, 6)
        self.check_told("put t[1].a = 2\nlet x = t[1].a\nput t[1].a = 9\ntell x\ntell t[1].a", 2, 9)
        self.check_told("put t[1].in = 1\nlet x = count(t, 1)\nput t[2].in = 1\ntell count(t, x)\ntell x", 2, 1)

    def test_variables_belong_to_a_transaction(self):
        self.assertEqual(told("let x = 3", "let x = 4\ntell x"), (4,))

    def test_put(self):
        self.check_told("put t[1].a = 5\ntell t[1].a\ntell t[1].b\ntell t[2].a\ntell s[1].a", 5, 0, 0, 0)
        self.check_told("put t[-1].a = 5\nput t[-1].a = -6\ntell t[-1].a", -6)
        self.check_told(f"put t[{L}].a = {-L}\nput t[{-L}].a = 7\ntell t[{L}].a\ntell t[{-L}].a", -L, 7)
        self.check_told(f"put t[({L} + 5)].a = ({L} * 2)\ntell t[{L}].a", L)

    def test_a_put_evaluates_both_before_the_write(self):
        self.check_told("put t[1].a = 1\nput t[1].a = (t[1].a + 1)\ntell t[1].a", 2)
        self.check_told("put t[t[0].a].a = 5\ntell t[0].a\nput t[t[0].a].a = t[0].a\ntell t[0].a\ntell t[5].a", 5, 5, 5)
        self.check_told("put t[0].a = (t[0].a - 1)\nput t[t[0].a].a = (t[-1].a + 3)\ntell t[-1].a\ntell t[0].a", 3, -1)
        self.check_told("put t[7].in = count(t, 1)\ntell t[7].in\nput t[8].in = (1 + count(t, 1))\ntell t[8].in", 0, 1)

    def test_each(self):
        rows = "put t[1].in = 1\nput t[2].in = 1\nput t[3].in = 1\nput t[1].a = 10\nput t[2].a = 20\nput t[3].a = 30\n"
        tells = "\ntell t[1].a\ntell t[2].a\ntell t[3].a"
        self.check_told(rows + "each t if 1 put a = (t[key].a + 1)" + tells, 11, 21, 31)
        self.check_told(rows + "each t if (key < 3) put a = key" + tells, 1, 2, 30)
        self.check_told(rows + "each t if (key - 2) put a = -1" + tells, -1, 20, -1)
        self.check_told(rows + "each t if 0 put a = -1" + tells, 10, 20, 30)
        self.check_told(rows + "each t if 1 put b = 1" + tells, 10, 20, 30)
        self.check_told(rows + "each s if 1 put a = 1" + tells, 10, 20, 30)
        self.check_told(rows + "let x = 2\neach t if (key = x) put a = (x * key)" + tells, 10, 4, 30)
        self.check_told(rows + "each t if at(1, (key = 1)) put a = at((key + 1), t[key].a)" + tells, 20, 30, 0)

    def test_an_each_evaluates_all_before_any_write(self):
        rows = "put t[1].in = 1\nput t[2].in = 1\nput t[3].in = 1\nput t[1].a = 10\nput t[2].a = 20\nput t[3].a = 30\n"
        tells = "\ntell t[1].a\ntell t[2].a\ntell t[3].a"
        self.check_told(rows + "each t if 1 put a = t[(4 - key)].a" + tells, 30, 20, 10)
        self.check_told(rows + "each t if 1 put a = (t[(key - 1)].a + t[(key + 1)].a)" + tells, 20, 40, 20)
        self.check_told(rows + "each t if (t[(key - 1)].a < 20) put a = 20" + tells, 20, 20, 30)
        self.check_told(rows + "each t if (t[(key + 1)].a < 20) put a = 0" + tells, 10, 20, 0)
        tells = "\ntell count(t, 1)\ntell sum(t, 1, key)"
        self.check_told(rows + "each t if t[(key + 1)].in put in = 0" + tells, 1, 3)
        self.check_told(rows + "each t if t[(key - 1)].in put in = 0" + tells, 1, 1)
        self.check_told(rows + "each t if 1 put in = (t[(key - 1)].in - 1)" + tells, 1, 1)

    def test_an_each_goes_over_present_keys(self):
        tells = "\ntell t[1].a\ntell t[2].a\ntell t[3].a\ntell t[4].a"
        rows = "put t[1].in = 1\nput t[2].in = 0\nput t[3].in = -7\nput t[4].a = 4"
        self.check_told(rows + "\neach t if 1 put a = 9" + tells, 9, 0, 9, 4)
        self.check_told(rows + "\nput t[1].in = 0\nput t[2].in = 2\neach t if 1 put a = 9" + tells, 0, 9, 9, 4)
        self.check_told("put s[1].in = 1\neach t if 1 put a = 9\neach s if 1 put a = 8\ntell t[1].a\ntell s[1].a", 0, 8)

    def test_rows_come_and_go(self):
        tells = "\ntell count(t, 1)\ntell sum(t, 1, key)\ntell first(t, 1, -1)"
        self.check_told("put t[5].in = 1" + tells, 1, 5, 5)
        self.check_told("put t[5].in = 1\nput t[5].in = 0" + tells, 0, 0, -1)
        self.check_told("put t[5].in = 0" + tells, 0, 0, -1)
        self.check_told("put t[5].in = 1\nput t[6].in = 1\neach t if (key = 5) put in = 0" + tells, 1, 6, 6)
        self.check_told("put t[5].in = 1\neach t if 1 put in = -3\ntell t[5].in" + tells, -3, 1, 5, 5)
        self.check_told("put t[5].in = 1\neach t if 1 put in = 0\neach t if 1 put in = 1\ntell t[5].in" + tells, 0, 0, 0, -1)
        self.check_told("put t[5].in = 1\neach t if 1 put in = 0\nput t[5].in = 2" + tells, 1, 5, 5)
        self.check_told("put t[5].a = 1\nput t[5].inn = 1\nput s[5].in = 1" + tells, 0, 0, -1)
        self.check_told("put t[5].a = 3\nput t[5].in = 1\nput t[5].in = 0\ntell t[5].a", 3)

    def test_need(self):
        self.check_told("need 1\nneed -1\nneed 5\ntell 7", 7)
        self.check_told(f"need {L}\nneed (1 < 2)\nput t[1].a = 1\nneed t[1].a\ntell 8", 8)
        for before in ((), ("put t[1].a = 4\nput t[1].in = 1\nput t[2].in = 1\nput t[2].a = -4",)):
            store = store_of(*before)
            self.check_refused(store, "need 0", 0)
            self.check_refused(store, "need (2 < 1)", 0)
            self.check_refused(store, "tell 1\nneed 0\nneed 0", 1)
            self.check_refused(store, "need 1\nneed 1\ntell 4\nneed 0\ntell 5", 3)
            self.check_refused(store, "put t[1].a = 9\nput t[2].in = 5\nneed (t[1].a = 8)\nput t[1].in = 1", 2)
            self.check_refused(store, "put t[1].in = 1\neach t if 1 put a = 6\nneed (t[1].a - 6)", 2)
            self.check_refused(store, "put t[1].in = 0\nput t[3].in = 1\nput s[1].a = 1\nlet x = 1\nneed (x - 1)", 4)

    def test_a_store_goes_on_after_a_refusal(self):
        store = store_of("put t[1].in = 1\nput t[1].a = 4")
        self.check_refused(store, "put t[1].a = 5\nput t[2].in = 1\nneed 0", 2)
        self.assertEqual(store.commit(read_transaction("tell t[1].a\ntell count(t, 1)\nput t[1].a = 6")), (4, 1))
        self.check_refused(store, "each t if 1 put a = 7\nneed (t[1].a = 6)", 1)
        self.check_value(store, "t[1].a", 6)
        self.check_value(store, "t[1].a", 4, moment=1)
        self.assertEqual(store.moment, 2)

    def test_told_values_in_order(self):
        self.check_told("")
        self.check_told("put t[1].a = 1")
        self.check_told("tell 3\ntell 1\nput t[1].a = 1\ntell t[1].a\ntell 1\ntell -2", 3, 1, 1, 1, -2)
        self.check_told("tell t[1].a\nput t[1].a = 1\ntell t[1].a\nput t[1].a = 2\ntell t[1].a", 0, 1, 2)

    def test_run(self):
        store = PlainStore()
        self.assertEqual(store.run(*read_transaction("put t[1].a = 3\ntell t[1].a\ntell 2")), (3, 2))
        self.assertEqual(store.run(("let", "x", ONE), ("tell", X)), (1,))
        with self.assertRaises(Refused) as refused:
            store.run(("tell", ONE), ("need", ("int", 0)))
        self.assertEqual(refused.exception.number, 1)
        self.assertEqual((store.run(), store.moment), ((), 3))
        self.check_value(store, "t[1].a", 3)


class MomentsTest(PlainTest):

    def test_moment(self):
        store = PlainStore()
        for number in range(5):
            self.assertEqual(store.moment, number)
            self.assertIs(type(store.moment), int)
            store.commit(read_transaction("" if number == 2 else "put t[1].a = 1\nput t[2].a = 1"))

    def test_all_moments_are_kept(self):
        texts = (
            "put t[1].in = 1\nput t[1].a = 1", "", "put t[2].in = 1\nput t[2].a = 2\nput s[1].a = 1",
            "each t if 1 put a = (t[key].a * 10)", "put t[1].in = 0", "put t[1].a = 5\nput s[1].a = 6",
        )
        store = store_of(*texts)
        for _ in range(2):
            for text, values in (
                ("t[1].a", (0, 1, 1, 1, 10, 10, 5)), ("t[2].a", (0, 0, 0, 2, 20, 20, 20)),
                ("s[1].a", (0, 0, 0, 1, 1, 1, 6)), ("count(t, 1)", (0, 1, 1, 2, 2, 1, 1)),
                ("sum(t, 1, t[key].a)", (0, 1, 1, 3, 30, 20, 20)), ("first(t, 1, -9)", (-9, 1, 1, 1, 1, 2, 2)),
            ):
                for moment, wanted in enumerate(values):
                    self.check_value(store, text, wanted, moment=moment)
                self.check_value(store, text, values[-1])
                self.check_value(store, text, values[-1], moment=None)

    def test_moments_that_there_are_not(self):
        for store in (PlainStore(), store_of("put t[1].a = 1"), store_of("", "", "")):
            there = store.moment
            for wanted in (-1, -2, there + 1, there + 2, 10 ** 20, -10 ** 20, *OTHER_THINGS):
                is_there = isinstance(wanted, int) and not isinstance(wanted, bool) and 0 <= wanted <= there
                if wanted is not None and not is_there:
                    with self.subTest(wanted=wanted):
                        with self.assertRaises(NotKept) as error:
                            store.value(ONE, moment=wanted)
                        self.assertIs(error.exception.wanted, wanted)
            self.assertEqual(store.moment, there)

    def test_bools_are_no_moments(self):
        store = store_of("put t[1].a = 1", "put t[1].a = 2")
        for wanted in (False, True):
            with self.assertRaises(NotKept) as error:
                store.value(read_expression("t[1].a"), moment=wanted)
            self.assertIs(error.exception.wanted, wanted)

    def test_stores_do_not_share_anything(self):
        one, other = PlainStore(), PlainStore()
        one.commit(read_transaction("put t[1].a = 1\nput t[1].in = 1"))
        self.assertEqual((one.moment, other.moment), (1, 0))
        self.check_value(other, "t[1].a", 0)
        self.check_value(other, "count(t, 1)", 0)


class ValuesTest(PlainTest):

    def test_operations(self):
        for text, wanted in (
            ("(2 + 3)", 5), ("(2 - 3)", -1), ("(-2 * 3)", -6), ("(2 < 3)", 1), ("(3 < 3)", 0), ("(4 < 3)", 0),
            ("(-4 < 3)", 1), ("(3 = 3)", 1), ("(3 = -3)", 0), ("(2 - -3)", 5),
            (f"({L} + 1)", L), (f"({-L} - 1)", -L), (f"({-L} + -1)", -L), (f"({L} - -1)", L), (f"({L} + {-L})", 0),
            (f"({L} * {L})", L), (f"({L} * {-L})", -L), ("(1000000000 * 1000000000)", L),
            ("(1000000000 * 1000000001)", L), ("(-1000000001 * 1000000000)", -L),
            (f"(({L} + {L}) - {L})", 0), (f"(({L} * 5) = {L})", 1), (f"(({L} + 1) < {L})", 0),
            ("if(1, 2, 3)", 2), ("if(0, 2, 3)", 3), ("if(-1, 2, 3)", 2), ("if((1 < 1), 2, if(7, 8, 9))", 8),
            ("at(3, key)", 3), ("at(3, (key + at((key + 1), (key * key))))", 19), ("at(at(2, (key + 1)), (key * 10))", 30),
            ("at(1, 7)", 7), ("(at(1, key) + at(2, key))", 3),
        ):
            self.check_value(PlainStore(), text, wanted)

    def test_cells(self):
        store = store_of("put t[1].a = 2\nput t[2].a = 5\nput t[1].b = 7\nput s[1].a = 9")
        for text, wanted in (
            ("t[1].a", 2), ("t[t[1].a].a", 5), ("t[t[t[1].a].a].a", 0), ("t[1].b", 7), ("s[1].a", 9), ("s[2].a", 0),
            ("at(2, t[key].a)", 5), ("at(t[1].a, t[key].a)", 5), ("t[(3 - 2)].a", 2), ("t[1].in", 0), ("u[1].a", 0),
        ):
            self.check_value(store, text, wanted)

    ROWS = (
        "put t[-2].in = 1\nput t[-2].a = -5\nput t[3].in = -1\nput t[3].a = -7\nput t[8].in = 9\nput t[8].a = -6\n"
        "put t[4].in = 0\nput t[4].a = 100\nput t[5].in = 1\nput t[5].in = 0\nput t[5].a = 200\nput t[6].a = 300\n"
        "put s[1].in = 1\nput s[9].in = 1"
    )

    def test_aggregates(self):
        store = store_of(self.ROWS)
        for text, wanted in (
            ("count(t, 1)", 3), ("count(t, 0)", 0), ("count(t, -1)", 3), ("count(t, (key < 4))", 2), ("count(t, key)", 3),
            ("count(t, (key - 3))", 2), ("count(s, 1)", 2), ("count(u, 1)", 0), ("count(t, t[key].in)", 3),
            ("sum(t, 1, key)", 9), ("sum(t, 1, t[key].a)", -18), ("sum(t, (key < 4), t[key].a)", -12), ("sum(t, 0, 5)", 0),
            ("sum(t, 1, 5)", 15), ("sum(u, 1, 5)", 0), ("sum(t, 1, s[key].in)", 0),
            ("most(t, 1, key, 99)", 8), ("most(t, 1, t[key].a, 99)", -5), ("most(t, (3 = key), t[key].a, 99)", -7),
            ("most(t, 0, t[key].a, 99)", 99), ("most(u, 1, 1, -3)", -3), ("most(t, 1, (key * -1), 99)", 2),
            ("most(t, 1, 0, 99)", 0),
            ("first(t, 1, 99)", -2), ("first(t, (0 < key), 99)", 3), ("first(t, (key < -2), 99)", 99), ("first(u, 1, 5)", 5),
            ("first(t, (key = 4), 99)", 99), ("first(t, (key = 5), 99)", 99), ("first(t, (key = 6), 99)", 99),
            ("first(s, t[key].in, (2 + 2))", 4), ("first(s, 1, 99)", 1),
        ):
            self.check_value(store, text, wanted)

    def test_the_key_zero_is_a_key(self):
        store = store_of("put t[0].in = 1\nput t[0].a = 4")
        self.check_value(store, "first(t, 1, 99)", 0)
        self.check_value(store, "most(t, 1, key, 99)", 0)
        self.check_value(store, "sum(t, 1, t[key].a)", 4)
        self.assertEqual(store.commit(read_transaction("each t if 1 put a = 5\ntell t[0].a")), (5,))

    def test_the_total_of_a_sum_is_clipped_once(self):
        rows = "\n".join(f"put t[{key}].in = 1" for key in (1, 2, 3, 4))
        values = f"\nput t[1].a = {L}\nput t[2].a = {L}\nput t[3].a = {-L}\nput t[4].a = -5"
        store = store_of(rows + values)
        self.check_value(store, "sum(t, 1, t[key].a)", L - 5)
        self.check_value(store, "sum(t, (key < 3), t[key].a)", L)
        self.check_value(store, "sum(t, (key < 4), t[key].a)", L)
        self.check_value(store, "sum(t, (2 < key), t[key].a)", -L)
        self.check_value(store, f"sum(t, (key < 3), ({-L} - key))", -L)
        self.check_value(store, f"most(t, 1, (t[key].a * {L}), 0)", L)

    def test_keys_are_bound_by_the_innermost(self):
        store = store_of(self.ROWS)
        for text, wanted in (
            ("at(3, first(t, (key < -9), key))", 3), ("at(3, first(t, (key < 9), key))", -2),
            ("at(7, most(t, 0, key, key))", 7), ("at(7, most(t, 1, key, key))", 8),
            ("at(4, (key + sum(t, (0 < key), key)))", 15), ("sum(t, 1, at(2, key))", 6), ("sum(t, 1, at(key, key))", 9),
            ("sum(t, 1, count(s, (key < 5)))", 3), ("sum(t, count(s, (key = 9)), key)", 9),
            ("sum(t, 1, first(s, 0, key))", 9), ("sum(t, 1, first(s, 1, key))", 3),
            ("sum(t, 1, most(s, (key < 0), key, (key * 2)))", 18), ("sum(t, (key - most(s, 0, 0, key)), 1)", 0),
            ("count(t, (key = first(s, 0, key)))", 3), ("sum(t, 1, most(s, 0, 0, most(s, 0, 0, key)))", 9),
            ("at(first(t, 1, 0), (key + first(s, 1, 0)))", -1), ("sum(s, 1, sum(t, 1, (key + count(s, key))))", 30),
            ("at(5, first(t, 0, at(6, first(t, 0, key))))", 6), ("at(5, first(t, 0, at((key + 1), first(t, 0, key))))", 6),
            ("at(5, at(first(t, 0, key), (key * 2)))", 10),
        ):
            self.check_value(store, text, wanted)

    def test_aggregates_in_statements(self):
        self.check_told(
            "put t[1].in = 1\nput t[count(t, 1)].b = first(t, 1, 9)\nlet x = sum(t, 1, 4)\nput t[x].in = x\n"
            "tell t[1].b\ntell most(t, 1, key, 0)\ntell count(t, (key < x))", 1, 4, 1,
        )

    def test_aggregates_within_one_another_over_many_rows(self):
        store = store_of(*["\n".join(f"put t[{key}].in = 1" for key in range(low, low + 25)) for low in (0, 25, 50, 75)])
        inner = "sum(t, (key < 50), (t[key].in + key))"
        self.check_value(store, inner, 1275)
        self.check_value(store, f"sum(t, 1, {inner})", 127500)
        self.check_value(store, f"most(t, 1, sum(t, 1, ({inner} - key)), 0)", 127500 - 4950)

    def test_expressions_nested_deeper_than_calls_can_go(self):
        store = store_of("put t[0].a = 0\nput t[1].in = 1")
        times = 3000
        for wrap, wanted in (
            (lambda e: ("+", e, ONE), times + 5), (lambda e: ("+", ONE, e), times + 5), (lambda e: ("at", e, KEY), 5),
            (lambda e: ("if", ONE, e, ONE), 5), (lambda e: ("cell", "t", e, "a"), 0), (lambda e: ("=", e, ONE), 0),
            (lambda e: ("first", "t", (), ROWS, ("int", 0), e), 5), (lambda e: ("most", "t", (), ROWS, ONE, ("int", 7), e), 7),
        ):
            self.assertEqual(store.value(keyed(deep(times, wrap, KEY), ("int", 5))), wanted)

    def test_against_the_document_word_for_word(self):
        draw = random.Random(10)
        for _ in range(150):
            store, naive = PlainStore(), NaiveStore()
            for _ in range(6):
                transaction = random_transaction(draw, draw.randrange(7))
                wanted = naive.commit(transaction)
                try:
                    found = store.commit(transaction)
                except Refused as error:
                    found = [error.number]
                self.assertEqual(found, wanted)
                self.assertEqual(store.moment, len(naive.moments) - 1)
            for _ in range(20):
                query = random_expression(draw, 5, (), False)
                moment = draw.randrange(store.moment + 1)
                found = store.value(query, moment=moment)
                self.assertEqual(found, naive.value(query, moment))
                self.assertIs(type(found), int)
                self.assertTrue(-L <= found <= L)
                self.assertEqual(store.value(query, moment=moment), found)

    def test_arguments_are_not_changed(self):
        transaction = read_transaction("put t[1].in = 1\neach t if 1 put a = key\ntell sum(t, 1, t[key].a)")
        query = read_expression("first(t, 1, 2)")
        before = repr((transaction, query))
        store = PlainStore()
        self.assertEqual((store.commit(transaction), store.commit(transaction)), ((1,), (1,)))
        self.assertEqual((store.value(query), store.value(query)), (1, 1))
        self.assertEqual(repr((transaction, query)), before)


if __name__ == "__main__":
    unittest.main()
