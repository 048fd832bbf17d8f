"""Point 12, and lookdone/logs.py."""

import random
import unittest

from lookdone.logs import is_log, let_of, log_of, statement_at
from lookdone.statementtexts import read_transaction
from tests.randomlogs import random_log
from tests.samples import L, ONE, OTHER_THINGS, X, deep
from tests.texts import asked_twice, log_from

LET = ("let", "x", ("int", 3))
PUT = ("put", "t", X, "a", ("int", 4))
NEED = ("need", ONE)
EACH = ("each", "t", ONE, "a", ("key",))


class LogOfTest(unittest.TestCase):

    def test_example(self):
        log = log_of(read_transaction("let x = 3\nput t[x].a = 4"), ())
        self.assertEqual(log, ((0, 2, 2), ((0, LET), (1, PUT))))

    def test_few(self):
        self.assertEqual(log_of(), ((0,), ()))
        self.assertEqual(log_of(()), ((0, 0), ()))
        self.assertEqual(log_of((), (), ()), ((0, 0, 0, 0), ()))
        self.assertEqual(log_of((NEED,)), ((0, 1), ((0, NEED),)))

    def test_positions_go_on_from_one_transaction_to_the_next(self):
        log = log_of((LET, PUT), (), (EACH,), (LET, NEED, PUT))
        self.assertEqual(log[0], (0, 2, 2, 3, 6))
        self.assertEqual(log[1], tuple(enumerate((LET, PUT, EACH, LET, NEED, PUT))))

    def test_needs_are_not_asked(self):
        refused = (("need", ("int", 0)),)
        self.assertEqual(log_of(refused, refused), ((0, 1, 2), ((0, refused[0]), (1, refused[0]))))

    def test_the_same_again(self):
        asked_twice(self, log_of, (LET, PUT), (NEED,))
        log = log_of((LET, PUT), (NEED,))
        self.assertIs(asked_twice(self, is_log, log), True)
        self.assertEqual(asked_twice(self, statement_at, log, 1), PUT)
        self.assertEqual(asked_twice(self, let_of, log, 1, "x"), 0)
        self.assertIs(asked_twice(self, is_log, [[0, 2], [[0, list(NEED)]]]), False)


class IsLogTest(unittest.TestCase):

    def check(self, thing, wanted):
        with self.subTest(thing=repr(thing)[:200]):
            self.assertIs(is_log(thing), wanted)

    def test_logs(self):
        for thing in (
            log_of(),
            log_of((), ()),
            log_of((LET, PUT), (), (LET, NEED, EACH)),
            ((0, 10000), ()),
            ((0, 10000), ((9999, NEED),)),
            ((0, 10000), ((0, LET), (5000, NEED), (9999, PUT))),
            ((0, 3, 3, 9), ((2, LET), (3, LET), (5, PUT))),
            ((0, 0, 0, 7), ((6, EACH),)),
            ((0,) * 200, ()),
            ((0, 5), ((1, ("let", "in", ONE)), (3, ("tell", ("var", "in"))))),
        ):
            self.check(thing, True)

    def test_many_statements(self):
        self.check(((0, 10000), tuple((place, NEED) for place in range(10000))), True)
        self.check(((0, 9999), tuple((place, NEED) for place in range(10000))), False)

    def test_marks(self):
        for marks in (
            (), (1,), (1, 2), (-1, 2), (0, -1), (0, 3, 2), (0, 3, 2, 4), (0, 10001), (0, 1, 10001), (0, 10 ** 39),
            (False,), (0, True), (0, True, 2), (0, None), (0, "2"), (0, (2,)), [0, 2], (0, [2]), "02", None, 0, {0: 2},
        ):
            self.check((marks, ()), False)

    def test_entries(self):
        for entries in (
            ((3, NEED),),  # at the last mark
            ((4, NEED),),
            ((-1, NEED),),
            ((True, NEED),),
            ((False, NEED),),
            (("0", NEED),),
            ((None, NEED),),
            ((1, NEED), (1, NEED)),
            ((2, NEED), (1, NEED)),
            ((0, NEED), (2, NEED), (1, NEED)),
            ((0, NEED, NEED),),
            ((0,),),
            ((),),
            (0, NEED),
            ([0, NEED],),
            [(0, NEED)],
            {0: NEED},
            None,
            "",
            ((0, None),),
            ((0, ()),),
            ((0, list(NEED)),),
            ((0, ("need", ("key",))),),
            ((0, ("need", ("let", 0))),),
            ((0, ("put", "t", ONE, "key", ONE)),),
            ((0, ("each", "t", ("count", "t", (), ("cell", "t", ("key",), "in"), ONE), "a", ONE)),),
            ((0, ("need", ("int", L + 1))),),
            ((0, ("need", ("int", True))),),
        ):
            self.check(((0, 3), entries), False)
            self.check(((0, 3), ()), True)
        self.check(((0,), ((0, NEED),)), False)
        self.check(((0, 0), ((0, NEED),)), False)

    def test_other_things(self):
        for thing in OTHER_THINGS:
            self.check(thing, False)
            self.check((thing, ()), False)
            self.check(((0, 2), thing), thing == () and isinstance(thing, tuple))
            self.check(((0, 2), (thing,)), False)
            self.check(((0, 2), ((0, thing),)), False)
            self.check(((0, 2), ((0, ("need", thing)),)), False)
            if thing not in (0, 1):
                self.check(((0, 2), ((thing, NEED),)), False)
        for thing in (((0,),), ((0,), (), ()), [(0,), ()], {0: (0,), 1: ()}, ((0,), None)):
            self.check(thing, False)

    def test_variables(self):
        let = ("let", "y", X)
        use = ("tell", X)
        for entries, wanted in (
            ((LET, use), True),
            ((LET, let, use), True),
            ((use, LET), False),
            ((use,), False),
            ((LET, LET), False),
            ((LET, use, LET), False),
            ((("let", "x", X),), False),
            ((let, LET), False),
            ((LET, ("put", "t", ONE, "a", ("+", X, ("var", "y")))), False),
            ((LET, ("each", "t", ONE, "a", ("at", ONE, ("var", "y")))), False),
        ):
            self.check(((0, 9), tuple(enumerate(entries))), wanted)

    def test_variables_of_other_transactions(self):
        use = ("tell", X)
        self.check(((0, 1, 2), ((0, LET), (1, use))), False)
        self.check(((0, 2), ((0, LET), (1, use))), True)
        self.check(((0, 1, 3), ((0, LET), (1, LET), (2, use))), True)
        self.check(((0, 1, 3), ((0, LET), (1, use), (2, LET))), False)
        self.check(((0, 4, 4, 9), ((3, LET), (4, use))), False)
        self.check(((0, 4, 4, 9), ((4, LET), (8, use))), True)

    def test_depth(self):
        for inmost, wanted in ((ONE, True), (X, False), ([1], False)):
            need = ("need", deep(5000, lambda inner: ("+", inner, ONE), inmost))
            self.assertIs(is_log(((0, 1), ((0, need),))), wanted)

    def test_random_logs(self):
        for seed in range(200):
            self.check(random_log(random.Random(seed)), True)


class StatementsTest(unittest.TestCase):

    def test_statement_at(self):
        log = ((0, 4, 9), ((1, LET), (3, NEED), (8, EACH)))
        found = [statement_at(log, position) for position in range(11)]
        self.assertEqual(found, [None, LET, None, NEED, None, None, None, None, EACH, None, None])
        self.assertIsNone(statement_at(log_of(), 0))

    def test_let_of(self):
        log = log_from("let x = 1\nlet y = x\nput t[x].a = y", "", "let y = 3\nlet x = y\ntell (x + y)")
        found = [let_of(log, position, "x") for position in range(7)]
        self.assertEqual(found, [None, 0, 0, None, None, 4, None])
        found = [let_of(log, position, "y") for position in range(7)]
        self.assertEqual(found, [None, None, 1, None, 3, 3, None])
        self.assertIsNone(let_of(log, 2, "z"))

    def test_let_of_between_positions(self):
        log = ((0, 5, 5, 20), ((2, LET), (7, ("let", "x", ONE)), (15, PUT)))
        found = [let_of(log, position, "x") for position in range(22)]
        self.assertEqual(found, [None] * 3 + [2, 2] + [None] * 3 + [7] * 12 + [None] * 2)


if __name__ == "__main__":
    unittest.main()
