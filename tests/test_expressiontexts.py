"""Point 7, and lookdone/expressiontexts.py."""

import random
import unittest

from lookdone.errors import BadText
from lookdone.expressions import depth_of, is_expression, is_plain, keyed, parts_of
from lookdone.expressiontexts import read_expression, show_expression
from tests.samples import EXPRESSIONS, KEY, L, ONE, OTHER_THINGS, PLAIN, RESERVED, ROWS, deep, random_expression

# Texts around a text, one for each place in each form; a text of an aggregate
# is nested three deep at least, for what it does not show.
SIMPLE_WRAPS = (
    "(@ + 1)", "(1 + @)", "(@ - 1)", "(1 - @)", "(@ * 1)", "(1 * @)", "(@ < 1)", "(1 < @)", "(@ = 1)", "(1 = @)",
    "t[@].a", "if(@, 1, 1)", "if(1, @, 1)", "if(1, 1, @)", "at(@, 1)", "at(1, @)",
)

AGGREGATE_WRAPS = (
    "count(t, @)", "sum(t, @, 1)", "sum(t, 1, @)", "most(t, @, 1, 1)", "most(t, 1, @, 1)", "most(t, 1, 1, @)",
    "first(t, @, 1)", "first(t, 1, @)",
)


def wrapped(text, wrap, times):
    for _ in range(times):
        text = wrap.replace("@", text)
    return text


class ExpressionTextsTest(unittest.TestCase):

    def check_bad(self, thing):
        with self.subTest(thing=thing):
            with self.assertRaises(BadText) as told:
                read_expression(thing)
            self.assertEqual(told.exception.line, 0)

    def check_if_read(self, text):
        """A string that is read is the text of what was read."""
        try:
            found = read_expression(text)
        except BadText as error:
            self.assertEqual(error.line, 0)
            return
        self.assertTrue(is_expression(found) and is_plain(found))
        self.assertEqual(show_expression(found), text)

    def test_each_form(self):
        for expression, text in PLAIN:
            with self.subTest(text=text):
                self.assertEqual(show_expression(expression), text)
                self.assertEqual(read_expression(text), expression)

    def test_examples(self):
        thing = read_expression("if((x < 3), t[(x + 1)].a, 7)")
        self.assertEqual((parts_of(thing), depth_of(thing)), (9, 4))
        self.check_bad("(1+2)")

    def test_random_expressions(self):
        draw = random.Random(4)
        for _ in range(2000):
            expression = random_expression(draw, 6)
            self.assertEqual(read_expression(show_expression(expression)), expression)

    def test_things_that_are_no_strings(self):
        for thing in (*OTHER_THINGS, *EXPRESSIONS, ["1"], ("1",), {"1": "1"}):
            if not isinstance(thing, str):
                self.check_bad(thing)

    def test_numbers_written_otherwise(self):
        for text in (
            "00", "01", "-01", "-0", "+1", "+0", "--1", "- 1", "-", "1-", "1.0", "1e3", "1_000", "0x1", "0b1", "1L",
            "-x", "1x", "x1", "007", "1 2", "12 ", " 12", "1\n", "\n1",
        ):
            self.check_bad(text)
            self.check_bad(f"(1 + {text})")
            self.check_bad(f"t[{text}].a")
            self.check_bad(f"count(t, {text})")

    def test_numbers_at_the_limits(self):
        for number in (0, 1, 9, 10, -1, -10, L - 1, L, 1 - L, -L, 999999999999999999):
            self.assertEqual(read_expression(str(number)), ("int", number))
            self.assertEqual(show_expression(("int", number)), str(number))
            self.assertEqual(read_expression(f"(x - {number})"), ("-", ("var", "x"), ("int", number)))
        for number in (L + 1, -L - 1, L * 10, -L * 10, 10 ** 40, -10 ** 40):
            self.check_bad(str(number))
            self.check_bad(f"t[{number}].a")
        for text in ("0" * 19, "0" * 4000, "1" * 4000, "-" * 4000, "9" * 5000, "-" + "9" * 100000):
            self.check_bad(text)

    def test_blanks(self):
        for _, text in PLAIN:
            for place in range(len(text) + 1):
                for sign in (" ", "\n", "\t", "(", ")", ",", "\u00e9", "\u00b2"):
                    self.check_bad(text[:place] + sign + text[place:])
                if text[place:place + 1] == " ":
                    self.check_bad(text[:place] + text[place + 1:])
                    self.check_bad(text[:place] + "\n" + text[place + 1:])

    def test_texts_cut_off(self):
        for _, text in PLAIN:
            if text[-1] == ")":
                for place in range(text.index("(") + 1, len(text)):
                    self.check_bad(text[:place])

    def test_words(self):
        for word in RESERVED:
            if word != "key":
                self.check_bad(word)
                self.check_bad(f"(1 + {word})")
            self.check_bad(f"{word}[1].a")
            self.check_bad(f"t[1].{word}")
            self.check_bad(f"count({word}, 1)")
            self.check_bad(f"{word}(1)")
            self.check_bad(f"{word}()")
        for word in ("keys", "iff", "ifs", "ats", "a", "counts", "su", "mostly", "firstly", "int", "var", "cell", "in"):
            self.assertEqual(read_expression(word), ("var", word))
            self.assertEqual(read_expression(f"{word}[key].{word}"), ("cell", word, KEY, word))
            self.check_bad(f"{word}(1)")
            self.check_bad(f"{word}(t, 1)")
            self.check_bad(f"{word}(1, 1)")
            self.check_bad(f"{word}(1, 1, 1)")

    def test_names(self):
        for name in ("a", "z", "abcdefgh", "zzzzzzzz"):
            self.assertEqual(read_expression(name), ("var", name))
            self.assertEqual(read_expression(f"{name}[1].b"), ("cell", name, ONE, "b"))
            self.assertEqual(read_expression(f"b[1].{name}"), ("cell", "b", ONE, name))
            self.assertEqual(read_expression(f"count({name}, 1)")[1], name)
        for name in ("abcdefghi", "A", "aB", "a1", "a_b", "_", "", "a b", "a.b", "\u00e9", "a" * 4000):
            self.check_bad(name)
            self.check_bad(f"{name}[1].b")
            self.check_bad(f"b[1].{name}")
            self.check_bad(f"count({name}, 1)")

    def test_each_letter_and_each_digit(self):
        for letter in "abcdefghijklmnopqrstuvwxyz":
            for name in (letter, letter * 8, "a" + letter):
                if name not in RESERVED:
                    self.assertEqual(read_expression(name), ("var", name))
                    self.assertEqual(read_expression(f"{name}[1].{name}"), ("cell", name, ONE, name))
            for text in (f"1{letter}", f"{letter}1", f"-{letter}", f"-1{letter}", f"1{letter}1", letter.upper()):
                self.check_bad(text)
        for digit in range(10):
            for number in (digit, -digit, 10 + digit, -10 * digit - 1):
                self.assertEqual(read_expression(str(number)), ("int", number))

    def test_how_many_parts(self):
        for text in (
            "if()", "if(1)", "if(1, 1)", "if(1, 1, 1, 1)", "at()", "at(1)", "at(1, 1, 1)", "count()", "count(t)",
            "count(1)", "count(t, 1, 1)", "count(1, 1)", "sum(t, 1)", "sum(t, 1, 1, 1)", "most(t, 1, 1)",
            "most(t, 1, 1, 1, 1)", "first(t, 1)", "first(t, 1, 1, 1)", "count(t[1].a, 1)", "count(key, 1)",
        ):
            self.check_bad(text)

    def test_other_texts(self):
        for text in (
            "", " ", "\n", "()", "(1)", "(x)", "(1 + 2", "1 + 2", "(1 + 2))", "(1 + 2 + 3)", "(1 / 2)", "(1 > 2)",
            "(1 == 2)", "(1 <= 2)", "(1 % 2)", "(1 ++ 2)", "(1 and 2)", "(1 ( 2)", "(1  2)", "(1 +)", "( + 1)", "(+ 1 2)",
            "t[1]", "t[1].", "t.a", "t[].a", "t(1).a", "t[1].a.b", "t[1][2].a", "t[1]a", "t [1].a", "[1].a", "1[1].a",
            "t[1, 2].a", "count(t,1)", "count(t , 1)", "count (t, 1)", "count(t, 1", "count t, 1", "COUNT(t, 1)",
            "let(0)", "key key", "x y", "key()", "@0", "\"x\"", "x;", "#", "tell 1", "(1 + 2)x", "(1 + 2)(1 + 2)",
        ):
            self.check_bad(text)

    def test_changed_texts(self):
        draw = random.Random(5)
        signs = "()[].,+-*<= 0123456789abtkeyifcoun\n"
        for _ in range(300):
            text = show_expression(random_expression(draw, 4))
            for _ in range(20):
                place = draw.randrange(len(text))
                sign = draw.choice(signs)
                self.check_if_read(text[:place] + text[place + 1:])
                self.check_if_read(text[:place] + sign + text[place:])
                self.check_if_read(text[:place] + sign + text[place + 1:])

    def test_thirty_deep(self):
        for wrap in SIMPLE_WRAPS:
            text = wrapped("1", wrap, 29)
            found = read_expression(text)
            self.assertEqual(depth_of(found), 30)
            self.assertEqual(show_expression(found), text)
            self.check_bad(wrapped("1", wrap, 30))
        for wrap in AGGREGATE_WRAPS:
            text = wrapped("1", wrap, 28)
            found = read_expression(text)
            self.assertEqual(depth_of(found), 30)
            self.assertEqual(show_expression(found), text)
            self.check_bad(wrapped("1", wrap, 29))

    def test_what_is_not_shown_is_nested_too(self):
        for inmost in ("count(s, 1)", "sum(s, 1, 1)", "most(s, 1, 1, 1)", "first(s, 1, 1)"):
            for wrap in SIMPLE_WRAPS + AGGREGATE_WRAPS:
                self.assertEqual(depth_of(read_expression(wrapped(inmost, wrap, 27))), 30)
                self.check_bad(wrapped(inmost, wrap, 28))
        self.assertEqual(depth_of(read_expression(wrapped("t[1].a", "(@ + 1)", 28))), 30)
        self.check_bad(wrapped("t[1].a", "(@ + 1)", 29))

    def test_far_deeper(self):
        for wrap in SIMPLE_WRAPS + AGGREGATE_WRAPS:
            for times in (31, 100, 350, 3000):
                self.check_bad(wrapped("1", wrap, times))
                self.check_bad(wrap.partition("@")[0] * times)
        for text in ("(" * 4000, ")" * 4000, "[" * 4000, "(" * 2000 + "1" + ")" * 2000, "t[" * 2000, "if(" * 1300):
            self.check_bad(text)

    def test_wide_texts(self):
        text = "1"
        for _ in range(10):
            text = f"(({text} + x) * {text})"
        found = read_expression(text)
        self.assertEqual((depth_of(found), show_expression(found)), (21, text))

    def test_show_deeper_than_calls_can_go(self):
        times = 20000
        self.assertEqual(show_expression(deep(times, lambda e: ("+", e, ONE))), "(" * times + "1" + " + 1)" * times)
        thing = keyed(deep(times, lambda e: ("first", "t", (), ROWS, ONE, e), KEY), ("int", -3))
        self.assertEqual(show_expression(thing), "first(t, 1, " * times + "-3" + ")" * times)

    def test_asked_again_the_answer_is_the_same(self):
        for expression, text in PLAIN:
            before = repr(expression)
            self.assertEqual(show_expression(expression), show_expression(expression))
            self.assertEqual(read_expression(text), read_expression(text))
            self.assertEqual(repr(expression), before)


if __name__ == "__main__":
    unittest.main()
