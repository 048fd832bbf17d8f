"""Point 34: lookdone/views.py."""

import random
import unittest

from lookdone.errors import NotKept, Refused
from lookdone.plain import PlainStore
from lookdone.statementtexts import read_transaction
from lookdone.stores import LazyStore
from lookdone.views import view
from tests.randomlogs import TABLES, rows, transaction
from tests.samples import KEY, L, ONE
from tests.slowwhole import SlowWhole
from tests.texts import query


def right(text):
    return " " * (8 - len(text)) + text


class ViewTest(unittest.TestCase):

    def setUp(self):
        self.store = LazyStore()

    def commit(self, *texts):
        for text in texts:
            self.store.commit(read_transaction(text))

    def check(self, columns, lines, table="t", **moment):
        """The lines are texts with blanks between the entries."""
        text = "\n".join(" ".join(right(word) for word in line.split()) for line in lines)
        for _ in range(2):
            self.assertEqual(view(self.store, table, *columns, **moment), text)

    def test_example(self):
        self.commit("put t[4].in = 1\nput t[4].a = 5\nput t[10].in = 1")
        self.assertEqual(view(self.store, "t", "a"), "     key        a\n       4        5\n      10        0")

    def test_columns(self):
        self.commit("put t[2].in = 3\nput t[2].a = 7\nput t[2].b = -8\nput t[1].in = 4")
        self.check((), ["key", "1", "2"])
        self.check(("a",), ["key a", "1 0", "2 7"])
        self.check(("b", "a"), ["key b a", "1 0 0", "2 -8 7"])
        self.check(("a", "a", "b", "a"), ["key a a b a", "1 0 0 0 0", "2 7 7 -8 7"])
        self.check(("in",), ["key in", "1 4", "2 3"])
        self.check(("abcdefgh", "in"), ["key abcdefgh in", "1 0 4", "2 0 3"])

    def test_no_rows(self):
        self.check((), ["key"])
        self.check(("a", "b"), ["key a b"])
        self.commit("put t[1].in = 1\nput s[1].a = 3", "put t[1].in = 0")
        self.check(("a",), ["key a"])
        self.check(("a",), ["key a"], table="s")
        self.assertEqual(view(self.store, "t"), "     key")

    def test_long_values(self):
        self.commit(f"put t[{-L}].in = 1\nput t[12345678].in = 1\nput t[-1234567].in = 1\nput t[123456789].in = 1",
                    f"put t[12345678].a = {L}\nput t[123456789].a = -12345678\nput t[{-L}].a = 7")
        self.assertEqual(view(self.store, "t", "a", "b"), "\n".join((
            "     key        a        b",
            "-1000000000000000000        7        0",
            "-1234567        0        0",
            "12345678 1000000000000000000        0",
            "123456789 -12345678        0",
        )))

    def test_ascending_keys(self):
        keys = [5, -3, 0, 100, 17, -20, 2, 1, 99, 3]
        self.commit(*[f"put t[{key}].in = (count(s, 1) + 1)" for key in keys])
        self.check((), ["key"] + [str(key) for key in sorted(keys)])

    def test_a_hundred_keys(self):
        self.commit(*["\n".join(f"put t[{key}].in = {key % 3}" for key in range(start, start + 25)) for start in (75, 50, 0, 25)])
        self.check(("in",), ["key in"] + [f"{key} {key % 3}" for key in range(100) if key % 3])

    def test_moments(self):
        self.store.keep()
        self.commit("put t[1].in = 1")
        self.store.keep()
        self.commit("put t[2].in = 1\nput t[1].a = 5", "put t[1].in = 0")
        self.check(("a",), ["key a", "2 0"])
        self.check(("a",), ["key a", "2 0"], moment=None)
        self.check(("a",), ["key a", "2 0"], moment=3)
        self.check(("a",), ["key a"], moment=0)
        self.check(("a",), ["key a", "1 0"], moment=1)
        for moment in (2, 4, -1, True, False, "1", (1,)):
            with self.assertRaises(NotKept) as raised:
                view(self.store, "t", "a", moment=moment)
            self.assertIs(raised.exception.wanted, moment)
        self.assertEqual(self.store.journal, ())

    def test_the_journal(self):
        self.commit("let x = count(s, 1)\nput t[(x + 2)].in = (x + 1)\nput t[1].in = if((x < 1), 0, 1)\nput t[3].in = 1",
                    "put t[1].a = count(s, 1)\nput t[2].a = count(s, 1)\nput t[3].b = count(s, 1)\nput t[3].a = 2")
        self.check(("b", "a"), ["key b a", "2 0 0", "3 0 2"])
        self.assertEqual([slot for slot, _ in self.store.journal], [
            # The keys from the last put back, then whether each is present.
            (0, "let"), (1, "key"), (2, "value"), (1, "value"), (5, "value"), (6, "value"),
        ])
        # What another view needs more.
        self.commit("put t[2].c = count(s, 1)\nput t[1].b = count(s, 1)")
        self.check(("c", "b", "in"), ["key c b in", "2 0 0 1", "3 0 0 1"])
        self.assertEqual([slot for slot, _ in self.store.journal[6:]], [(8, "value")])

    def test_cell_by_cell_in_the_order_of_the_text(self):
        self.commit("put t[1].in = 1\nput t[2].in = 1\n" + "\n".join(
            f"put t[{key}].{column} = (count(s, 1) + {key})" for key in (2, 1) for column in "ab"))
        self.check(("b", "a", "b"), ["key b a b", "1 1 1 1", "2 2 2 2"])
        self.assertEqual([slot for slot, _ in self.store.journal], [(5, "value"), (4, "value"), (3, "value"), (2, "value")])

    def test_held_against_looks(self):
        """The text, and the journal behind it, are those of a count and of the cells."""
        for seed in range(200):
            draw = random.Random(seed)
            lazy, slow, plain = LazyStore(), SlowWhole(), PlainStore()
            for one in (rows(draw), transaction(draw, 4), transaction(draw, 4)):
                for store in (lazy, plain):
                    try:
                        store.commit(one)
                    except Refused:
                        pass
                slow.do(one)
                lazy.keep()
            for _ in range(3):
                table = draw.choice(TABLES)
                columns = draw.choice((("a",), ("in", "b"), ("b", "a", "b"), ()))
                moment = draw.choice((None,) + lazy.kept)
                in_place = ("cell", table, KEY, "in")
                slow.look(("count", table, (), in_place, ONE), moment)
                wanted = [("key",) + columns]
                for key in range(-5, 20):
                    if plain.value(("cell", table, ("int", key), "in"), moment=moment):
                        cells = [("cell", table, ("int", key), column) for column in columns]
                        wanted.append((key, *[slow.look(cell, moment) for cell in cells]))
                if plain.value(query(f"count({table}, 1)"), moment=moment) != len(wanted) - 1:
                    break
                text = "\n".join(" ".join(str(word).rjust(8) for word in line) for line in wanted)
                self.assertEqual(view(lazy, table, *columns, moment=moment), text)
                self.assertEqual(lazy.journal, tuple(slow.journal))


if __name__ == "__main__":
    unittest.main()
