"""Point 35: lookdone/findings.py."""

import random
import unittest

from lookdone.compacting import compact
from lookdone.errors import TooLarge
from lookdone.evaluation import evaluated, needed, value_of
from lookdone.expressions import is_plain
from lookdone.findings import finding_holds
from lookdone.leading import cut_look, led_back
from lookdone.slotspans import slot_span, span_of
from lookdone.traces import trace_of
from tests.randomlogs import random_log, standing
from tests.samples import KEY, L, ONE, OTHER_THINGS, TWO, X, deep, nested
from tests.test_chains import MANY
from tests.texts import asked_twice, chain, log_from, query

LOG = log_from(
    "let x = count(s, 1)\nput t[if((x < 5), 3, 4)].a = 6\nput t[1].in = 1",
    "let y = (count(s, 1) + 1)\neach t if (key = y) put a = (key + y)\ntell y",
)
END = 6
T3A = query("t[3].a")
SUM = query("sum(t, 1, t[key].a)")

LET_0, KEY_1, LET_3, GUARD, VALUE = (0, "let"), (1, "key"), (3, "let"), (4, "guard", 1), (4, "value", 1)
ENTRIES = ((LET_0, 0), (KEY_1, 3), (LET_3, 1), (GUARD, 1), (VALUE, 2))


def variants(thing):
    """The thing with one integer, one string or one tuple in it put otherwise."""
    if isinstance(thing, tuple):
        yield list(thing)
        yield thing + (thing[-1],) if thing else (0,)
        if thing:
            yield thing[:-1]
            yield thing[1:]
        for number, part in enumerate(thing):
            for other in variants(part):
                yield thing[:number] + (other,) + thing[number + 1:]
    elif isinstance(thing, str):
        yield thing + "x"
        yield None
        yield (thing,)
    else:
        yield thing + 1
        yield thing - 1
        yield str(thing)
        yield None
        if thing in (0, 1):
            yield bool(thing)


class FindingTest(unittest.TestCase):

    def check(self, thing, wanted):
        with self.subTest(thing=repr(thing)[-400:]):
            self.assertIs(asked_twice(self, finding_holds, thing), wanted)

    def check_put_otherwise(self, finding, since=4, but=()):
        """The finding holds, and with any part of it put otherwise, from that number on, it does not."""
        self.check(finding, True)
        for number in range(since, len(finding)):
            for other in variants(finding[number]):
                thing = finding[:number] + (other,) + finding[number + 1:]
                if thing not in but:
                    self.check(thing, False)

    def test_example(self):
        log = log_from("let x = count(s, 1)\nput t[if((x < 5), 3, 4)].a = 6")
        self.assertEqual((finding_holds(("value", log, T3A, 2, 6)), finding_holds(("needs", log, T3A, 2, (KEY_1,)))),
                         (True, False))


class FormsTest(FindingTest):

    def test_value(self):
        self.check_put_otherwise(("value", LOG, T3A, END, 6))
        self.check_put_otherwise(("value", LOG, query("(t[1].a < 5)"), END, 1))
        self.check_put_otherwise(("value", LOG, SUM, END, 2))
        self.check_put_otherwise(("value", LOG, T3A, 1, 0))
        self.check_put_otherwise(("value", LOG, ("let", 3), 4, 1))

    def test_span(self):
        self.check_put_otherwise(("span", LOG, query("(t[3].a + 1)"), END, 1, 7))
        self.check_put_otherwise(("span", LOG, query("(t[3].a < 3)"), END, 0, 1))
        self.check_put_otherwise(("span", LOG, ("let", 3), END, 1, L))
        self.check(("span", LOG, T3A, END, L, 0), False)

    def test_needs(self):
        self.check_put_otherwise(("needs", LOG, SUM, END, (LET_3, GUARD, VALUE)))
        self.check_put_otherwise(("needs", LOG, T3A, END, (LET_0, KEY_1)))
        self.check_put_otherwise(("needs", LOG, ("int", 7), END, ()))
        self.check(("needs", LOG, T3A, END, (KEY_1, LET_0)), False)
        self.check(("needs", LOG, T3A, END, (LET_0, LET_0, KEY_1)), False)

    def test_trace(self):
        told = trace_of(LOG, SUM, END)
        self.assertEqual(told, (2, ((LET_3, 1), (GUARD, 1), (VALUE, 2))))
        self.check_put_otherwise(("trace", LOG, SUM, END, told))
        # More entries do no harm if they are right, and are all there.
        self.check(("trace", LOG, SUM, END, (2, ENTRIES)), True)
        self.check(("trace", LOG, SUM, END, (2, ENTRIES[1:])), False)
        self.check(("trace", LOG, T3A, END, (6, ENTRIES)), True)

    def test_the_trace_of_an_expression_that_is_not_plain(self):
        for look in (("let", 3), ("count", "t", (ONE,), ("cell", "t", KEY, "in"), ONE), ("count", "t", (), ONE, ONE)):
            self.assertIs(is_plain(look), False)
            told = trace_of(LOG, look, END)
            self.check(("value", LOG, look, END, told[0]), True)
            self.check(("trace", LOG, look, END, told), False)

    def test_led(self):
        for cut in range(END + 1):
            # Statements that do not matter to it change nothing.
            others = [("led", LOG, T3A, END, other, led_back(LOG, T3A, END, other)) for other in range(END + 1)]
            self.check_put_otherwise(others[cut], but=others)
        self.check_put_otherwise(("led", LOG, ("let", 3), 4, 3, query("(count(s, 1) + 1)")),
                                 but=[("led", LOG, ("let", 3), 4, 2, query("(count(s, 1) + 1)"))])
        self.check(("led", LOG, T3A, 4, 5, T3A), False)
        self.check(("led", LOG, T3A, 4, 4, T3A), True)
        self.check(("led", LOG, T3A, 4, -1, T3A), False)
        self.check(("led", log_from(), ONE, 0, False, ONE), False)
        self.check(("led", log_from(), ONE, 0, 0, ONE), True)

    def test_cut(self):
        slots = needed(LOG, SUM, END)
        for cut in range(END + 1):
            below = tuple(slot for slot in slots if slot[0] < cut)
            finding = ("cut", LOG, SUM, END, cut, 2, below)
            others = [("cut", LOG, SUM, END, other, 2, tuple(slot for slot in slots if slot[0] < other))
                      for other in range(END + 1)]
            self.check_put_otherwise(finding, but=others)
        self.check(("cut", LOG, SUM, 5, 6, 2, slots), False)
        self.check(("cut", LOG, SUM, 5, 5, 2, slots), True)

    def test_too_large(self):
        """What is said at a cut holds also if leading back raises TooLarge; nothing is led back to it then."""
        log = chain("put t[1].a = (count(s, 1) + 1)", *["put t[1].a = (t[1].a * t[1].a)"] * (MANY - 1))
        look = query("t[1].a")
        with self.assertRaises(TooLarge):
            led_back(log, look, MANY, 100)
        self.check(("cut", log, look, MANY, 100, 1, tuple((place, "value") for place in range(100))), True)
        self.check(("cut", log, look, MANY, 100, 2, tuple((place, "value") for place in range(100))), False)
        for other in (look, ONE, led_back(log, look, MANY, MANY - 3), None):
            self.check(("led", log, look, MANY, 100, other), False)
        self.check(("led", log, look, MANY, MANY - 3, led_back(log, look, MANY, MANY - 3)), True)
        self.check(("value", log, look, MANY, 1), True)
        self.check(("trace", log, look, MANY, trace_of(log, look, MANY)), True)
        self.check(("needs", log, look, MANY, needed(log, look, MANY)), True)
        self.check(("span", log, look, MANY, 1, L), True)

    def test_compact(self):
        for moments in ((), (0,), (2,), (0, 1, 2)):
            for many in range(len(ENTRIES) + 1):
                finding = ("compact", LOG, moments, ENTRIES[:many], compact(LOG, moments, entries=ENTRIES[:many]))
                self.check(finding, True)
        finding = ("compact", LOG, (1, 2), ENTRIES, compact(LOG, (1, 2), entries=ENTRIES))
        self.check_put_otherwise(finding, since=3, but=[
            # Without the last entries the others are still complete, and the each that is live stays as it is.
            (*finding[:3], ENTRIES[:4], finding[4]), (*finding[:3], ENTRIES[:3] + ENTRIES[4:], finding[4]),
        ])
        other = compact(LOG, (1, 2))
        self.check(("compact", LOG, (1, 2), (), other), True)
        self.check(("compact", LOG, (1, 2), (), finding[4]), False)
        self.check(("compact", LOG, (1, 2), ENTRIES, other), False)

    def test_moments_of_compact(self):
        text = compact(LOG, (1, 2))
        for moments in ((2, 1), (1, 1, 2), (1, 2, 3), (-1, 1, 2), (True, 2), [1, 2], None, 2, (1, 2, None), ("1", 2), {1: 2},
                        (1, (2,)), "12"):
            self.check(("compact", LOG, moments, (), text), False)
        self.check(("compact", LOG, (False, 2), (), compact(LOG, (0, 2))), False)
        self.check(("compact", LOG, (0, 2), (), compact(LOG, (0, 2))), True)

    def test_entries_of_compact(self):
        for entries in (
            # Not complete, not ascending, one twice, with wrong values, of slots that there are not.
            ENTRIES[1:], ENTRIES[:2] + ENTRIES[3:], ENTRIES[::-1], ENTRIES[:1] * 2, ((LET_0, 1),), ((LET_0, 0), (KEY_1, 4)),
            (((0, "key"), 0),), (((5, "let"), 0),), ((LET_0, False),), (((False, "let"), 0),), list(ENTRIES), None, (LET_0,), ENTRIES[0],
            # With a single value as its span.
            (((1, "value"), 6),), (((2, "key"), 1),), ((LET_0, 0), ((1, "value"), 6)), (((4, "guard", 2), 0),),
        ):
            for other in (compact(LOG, (2,)), compact(LOG, (2,), entries=ENTRIES), compact(LOG, (2,), entries=ENTRIES[:1])):
                self.check(("compact", LOG, (2,), entries, other), False)
        self.assertEqual(slot_span(LOG, (4, "guard", 2)), (0, 0))


class BeginningTest(FindingTest):
    """The log, the expression and the position: forms that hold, with one of these put otherwise."""

    def setUp(self):
        self.findings = (
            ("value", LOG, T3A, END, 6), ("span", LOG, T3A, END, 0, 6), ("needs", LOG, T3A, END, (LET_0, KEY_1)),
            ("trace", LOG, T3A, END, (6, ENTRIES[:2])), ("led", LOG, T3A, END, END, T3A), ("cut", LOG, T3A, END, 1, 6, (LET_0,)),
        )

        self.holding = [repr(finding) for finding in (
            ("led", LOG, T3A, END, 0, T3A), ("led", LOG, T3A, END, 1, T3A), ("needs", LOG, T3A, 0, ()),
        )]

    def test_they_hold(self):
        for finding in self.findings:
            self.check(finding, True)

    def test_words_and_lengths(self):
        for finding in self.findings + (("compact", LOG, (2,), (), compact(LOG, (2,))),):
            for other in (finding[:-1], finding + (0,), finding + (finding[-1],), finding[1:], list(finding), (finding,),
                          (finding[0],), finding[:2], finding[:4], ()):
                self.check(other, False)
            for word in ("values", "Value", "", " value", None, 0, True, (), ("value",), "plain", "x", "cuts", "in"):
                self.check((word,) + finding[1:], False)
            for other in self.findings:
                if other[0] != finding[0]:
                    self.check((other[0],) + finding[1:], False)

    def test_logs_that_are_not_valid(self):
        marks, entries = LOG
        for log in (
            (marks, entries[1:]), (marks[1:], entries), ((0, 3, 5), entries), ((0, 3, 2, 6), entries), ((0, 3, 10001), entries),
            ((False, 3, 6), entries), ((0, 3, 6), entries[::-1]), ((0, 3, 6), entries[:1] + entries), (list(marks), entries),
            (marks, list(entries)), [marks, entries], (marks,), (marks, entries, ()), None, (), marks, ((0, 6), entries[:3] + entries),
            (marks, ((False, entries[0][1]),) + entries[1:]), (marks, ((0, ("let", "x", ("int", True))),) + entries[1:]),
            ((0, 2, 6), (entries[0], (2, ("tell", X)))), (marks, ((0, ("let", "x", ("let", 0))),) + entries[1:]),
        ):
            for finding in self.findings + (("compact", LOG, (), (), (marks, ())),):
                self.check((finding[0], log) + finding[2:], False)

    def test_expressions_that_may_not_stand_there(self):
        for look in (("let", 1), ("let", 5), ("let", -1), ("let", True), ("let", 7), X, KEY, ("+", ONE, KEY), ("+", X, ONE),
                     ("at", KEY, ONE), ("int", True), ("int", L + 1), ("int", 1.0), ("int",), ("none",), None, "t[3].a", 6, (),
                     ["int", 1], ("cell", "t", ONE, "key"), ("count", "t", [], ONE, ONE), ("if", ONE, TWO)):
            for finding in self.findings:
                self.check((finding[0], LOG, look) + finding[3:], False)
        self.check(("value", LOG, ("let", 3), 3, 1), False)
        self.check(("value", LOG, ("let", 3), 4, 1), True)
        self.check(("led", LOG, ("let", 3), 3, 3, ("let", 3)), False)

    def test_positions(self):
        for position in (-1, 7, 10 ** 39, True, False, None, "6", (6,), [6]):
            for finding in self.findings:
                self.check(finding[:3] + (position,) + finding[4:], False)
        # True would be 1: what holds there holds with the integer only.
        for position, wanted in ((1, True), (True, False), (0, True), (False, False)):
            self.check(("value", LOG, T3A, position, 0), wanted)
            self.check(("needs", LOG, T3A, position, ()), wanted)
            self.check(("span", LOG, T3A, position, 0, 0), wanted)
            self.check(("trace", LOG, T3A, position, (0, ())), wanted)
            self.check(("cut", LOG, T3A, END, position, 6, (LET_0,)[:position]), wanted)
        self.check(("led", LOG, T3A, True, 1, T3A), False)
        self.check(("led", LOG, T3A, 1, True, T3A), False)
        self.check(("led", LOG, T3A, 1, 1, T3A), True)
        self.check(("led", LOG, T3A, 1, 0, T3A), True)

    def test_things_of_all_kinds(self):
        for thing in OTHER_THINGS + (LOG, T3A, ENTRIES, ("value", LOG), nested(("value", LOG, T3A, END, 6), 3), tuple(range(4000))):
            self.check(thing, False)
        for thing in OTHER_THINGS:
            for finding in self.findings + (("compact", LOG, (2,), (), compact(LOG, (2,))),):
                for number in range(1, len(finding)):
                    other = finding[:number] + (thing,) + finding[number + 1:]
                    # At the positions 0 and 1 there is nothing to need, and no moments need no entries.
                    if repr(other) not in self.holding and repr(other) != repr(finding):
                        self.check(other, False)

class WholeTest(FindingTest):

    def test_random_ones(self):
        for seed in range(150):
            draw = random.Random(seed)
            log = random_log(draw)
            look, position = standing(draw, log, 3)
            value, found = evaluated(log, look, position)
            slots, (low, high) = needed(log, look, position), span_of(log, look, position)
            self.assertEqual(value, value_of(log, look, position))
            cut = draw.randint(0, position)
            self.check(("value", log, look, position, value), True)
            self.check(("value", log, look, position, value + draw.choice((-1, 1))), False)
            self.check(("span", log, look, position, low, high), True)
            self.check(("span", log, look, position, low, high + 1), False)
            self.check(("span", log, look, position, low - 1, high), False)
            self.check(("needs", log, look, position, slots), True)
            self.check(("trace", log, look, position, trace_of(log, look, position)), is_plain(look))
            self.check(("cut", log, look, position, cut, *cut_look(log, look, position, cut)), True)
            try:
                other = led_back(log, look, position, cut)
            except TooLarge:
                continue
            self.check(("led", log, look, position, cut, other), True)
            self.check(("led", log, look, position, cut, ("+", other, ("int", 0))), False)
            if slots:
                self.check(("needs", log, look, position, slots[1:]), False)
                self.check(("needs", log, look, position, slots + (slots[-1],)), False)
                self.check(("cut", log, look, position, position, value, slots[:-1]), False)
            entries = tuple(sorted(found))
            moments = tuple(sorted(draw.sample(range(len(log[0])), draw.randint(0, len(log[0])))))
            self.check(("compact", log, moments, entries, compact(log, moments, entries=entries)), True)
            wrong = tuple((slot, told + 1) for slot, told in entries)
            self.check(("compact", log, moments, wrong, compact(log, moments, entries=wrong)), not entries)

    def test_deep_ones(self):
        log = log_from("let x = count(s, 1)")
        look = deep(99, lambda inner: ("+", inner, ONE), ("let", 0))
        self.check(("value", log, look, 1, 99), True)
        self.check(("led", log, look, 1, 1, look), True)
        self.check(("led", log, look, 1, 0, led_back(log, deep(99, lambda inner: ("+", inner, ONE), ("let", 0)), 1, 1)), False)
        # Deeper than calls go.
        very = deep(3000, lambda inner: ("+", inner, ONE), ("let", 0))
        other = deep(3000, lambda inner: ("+", inner, ONE), ("let", 1))
        self.assertIs(finding_holds(("led", log, very, 1, 1, very)), True)
        self.assertIs(finding_holds(("led", log, very, 1, 1, other)), False)
        self.assertIs(finding_holds(("led", log, very, 1, 0, very)), False)
        self.assertIs(finding_holds(("led", log, other, 1, 1, other)), False)


if __name__ == "__main__":
    unittest.main()
