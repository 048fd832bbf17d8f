"""Point 32: lookdone/logtexts.py."""

import random
import unittest

from lookdone.errors import BadText
from lookdone.expressions import is_closed
from lookdone.logs import is_log
from lookdone.logtexts import read_log, show_log
from lookdone.statementtexts import show_transaction
from tests.randomlogs import random_log
from tests.samples import L, OTHER_THINGS, PLAIN
from tests.texts import asked_twice, log_from, moved

TWO_PUTS = log_from("put t[1].a = 2", "put t[1].a = 3")

# Three transactions, the second of them empty, and some positions left out.
LINES = (
    "marks 0 4 4 9",
    "kept 0 3",
    "0 let x = count(s, 1)",
    "1 put t[x].a = (x + 1)",
    "3 each t if (key < x) put in = -1",
    "4 need (t[1].a < 3)",
    "7 let x = t[-5].in",
    "8 tell x",
)
TEXT = "\n".join(LINES)


def with_line(number, *others):
    """The text with these lines in place of that one."""
    return "\n".join(LINES[:number] + others + LINES[number + 1:])


class ShowTest(unittest.TestCase):

    def check(self, log, kept, text):
        with self.subTest(text=text):
            self.assertEqual(asked_twice(self, show_log, log, kept), text)
            self.assertEqual(asked_twice(self, read_log, text), (log, kept))
            self.assertIs(is_log(log), True)

    def test_example(self):
        self.check(TWO_PUTS, (1,), "marks 0 1 2\nkept 1\n0 put t[1].a = 2\n1 put t[1].a = 3")

    def test_none_and_empty_ones(self):
        self.check(log_from(), (), "marks 0\nkept")
        self.check(log_from(), (0,), "marks 0\nkept 0")
        self.check(log_from("", ""), (0, 1, 2), "marks 0 0 0\nkept 0 1 2")
        self.check(log_from("", "tell 1", ""), (), "marks 0 0 1 1\nkept\n0 tell 1")

    def test_kept_moments(self):
        for kept, line in (((), "kept"), ((0,), "kept 0"), ((2,), "kept 2"), ((0, 1, 2), "kept 0 1 2"), ((0, 2), "kept 0 2")):
            self.check(TWO_PUTS, kept, f"marks 0 1 2\n{line}\n0 put t[1].a = 2\n1 put t[1].a = 3")

    def test_kept_moments_are_written_ascending(self):
        self.assertEqual(asked_twice(self, show_log, TWO_PUTS, (2, 0)), show_log(TWO_PUTS, (0, 2)))

    def test_each_statement(self):
        log, kept = read_log(TEXT)
        self.assertEqual(log[0], (0, 4, 4, 9))
        self.assertEqual([position for position, _ in log[1]], [0, 1, 3, 4, 7, 8])
        self.assertEqual([statement[0] for _, statement in log[1]], ["let", "put", "each", "need", "let", "tell"])
        self.assertEqual(kept, (0, 3))
        self.check(log, kept, TEXT)

    def test_positions_left_out(self):
        self.check(moved(TWO_PUTS, 3, 9, 10000), (1,), "marks 0 10000\nkept 1\n3 put t[1].a = 2\n9 put t[1].a = 3")
        self.check(moved(TWO_PUTS, 0, 9999, 10000), (), "marks 0 10000\nkept\n0 put t[1].a = 2\n9999 put t[1].a = 3")
        self.check(((0, 10000, 10000), ()), (2,), "marks 0 10000 10000\nkept 2")

    def test_random_logs(self):
        for seed in range(200):
            draw = random.Random(seed)
            log = random_log(draw)
            moments = len(log[0])
            kept = tuple(sorted(draw.sample(range(moments), draw.randint(0, moments))))
            lines = ["marks " + " ".join(map(str, log[0])), " ".join(["kept", *map(str, kept)])]
            lines += [f"{position} {show_transaction((statement,))}" for position, statement in log[1]]
            self.check(log, kept, "\n".join(lines))


class ReadTest(unittest.TestCase):

    def bad(self, thing, line):
        with self.subTest(thing=thing):
            for _ in range(2):
                with self.assertRaises(BadText) as raised:
                    read_log(thing)
                self.assertEqual(raised.exception.line, line)

    def test_things_that_are_no_strings(self):
        for thing in OTHER_THINGS + (b"marks 0\nkept", ["marks 0", "kept"], (TEXT,), TWO_PUTS):
            self.bad(thing, 0)

    def test_lines_left_out(self):
        self.bad("", 0)
        self.bad("\n", 0)
        self.bad("marks 0", 1)
        self.bad("marks 0 1 2", 1)
        self.bad("marks 0\n", 1)
        self.bad("kept", 0)
        self.bad("kept\nmarks 0", 0)
        self.bad(with_line(0), 0)
        self.bad(with_line(1), 1)
        # A let is left out: the line that uses it is the first bad one.
        self.bad(with_line(2), 2)
        self.bad(with_line(6), 6)
        for number in (3, 4, 5, 7):
            self.assertEqual(len(read_log(with_line(number))[0][1]), 5)
        # Any beginning with both first lines is such a text.
        for many in range(2, 8):
            self.assertEqual(len(read_log("\n".join(LINES[:many]))[0][1]), many - 2)

    def test_lines_doubled(self):
        self.bad(with_line(0, LINES[0], LINES[0]), 1)
        self.bad(with_line(1, LINES[1], LINES[1]), 2)
        for number in range(2, 8):
            self.bad(with_line(number, LINES[number], LINES[number]), number + 1)

    def test_line_feeds(self):
        self.bad(TEXT + "\n", 8)
        self.bad("marks 0\nkept\n", 2)
        for number in range(8):
            self.bad(with_line(number, "", LINES[number]), number)
        self.bad(TEXT.replace("\n", "\r\n"), 0)
        self.bad(with_line(1, "kept 0 3\r"), 1)

    def test_blanks_and_signs_too_many(self):
        for number, line in enumerate(LINES):
            for other in (" " + line, line + " ", line.replace(" ", "  ", 1), "\t" + line, line + ";", line + "\t", "",
                          line.upper(), line.replace(" ", "\t", 1), line.replace(" ", "", 1)):
                self.bad(with_line(number, other), number)
            # What stands before the line feed is a line of its own: kept alone is a good one.
            self.bad(with_line(number, line.replace(" ", "\n", 1)), 2 if number == 1 else number)

    def test_numbers_that_are_not_written_so(self):
        for word in ("00", "-0", "+0", "0.", "0_0", "", "0x0", "x", "None", "True", "0,", "\u0660"):
            self.bad(with_line(0, f"marks {word} 4 4 9"), 0)
            self.bad(with_line(1, f"kept {word} 3"), 1)
            self.bad(with_line(2, f"{word} let x = count(s, 1)"), 2)
        for word in ("04", "+4", "4.0", "-4", "1_0", "4e0", "9" * 5000):
            self.bad(with_line(0, f"marks 0 {word} 4 9"), 0)
            self.bad(with_line(0, f"marks 0 4 4 {word}"), 0)
        for word in ("01", "+1", "1.0", "-1", "9" * 5000):
            self.bad(with_line(1, f"kept {word}"), 1)
            self.bad(with_line(3, f"{word} put t[x].a = (x + 1)"), 3)
        self.bad(with_line(3, "1 put t[01].a = 2"), 3)
        self.bad(with_line(3, f"1 put t[1].a = {L + 1}"), 3)

    def test_marks(self):
        for line in ("marks", "marks 1", "marks 1 4 4 9", "marks 4 0", "marks 0 4 3 9", "marks 0 1 0", "marks 0 10001",
                     "marks 0 4 4 99999", "mark 0 4 4 9", "Marks 0 4 4 9", "marks0 4 4 9", "0 4 4 9", "kept 0 4 4 9"):
            self.bad(with_line(0, line), 0)
        self.bad("marks 0 10001\nkept 9", 0)
        self.assertEqual(read_log("marks 0 10000\nkept")[0], ((0, 10000), ()))

    def test_kept_moments(self):
        for line in ("kept 4", "kept 0 4", "kept 3 0", "kept 0 0", "kept 3 3", "kept 0 1 1 2", "keep 0 3", "kept0 3", "0 3",
                     "marks 0 3", "kept -1", "kept 10 11"):
            self.bad(with_line(1, line), 1)
        self.assertEqual(read_log(with_line(1, "kept 0 1 2 3"))[1], (0, 1, 2, 3))
        self.assertEqual(read_log(with_line(1, "kept"))[1], ())

    def test_positions(self):
        self.bad(with_line(7, "9 tell x"), 7)
        self.bad(with_line(7, "10 tell x"), 7)
        self.bad(with_line(7, "7 tell x"), 7)
        self.bad(with_line(7, "6 tell x"), 7)
        self.bad(with_line(3, "0 put t[1].a = 1"), 3)
        self.bad("marks 0\nkept\n0 tell 1", 2)
        self.bad("marks 0 0 0\nkept\n0 tell 1", 2)
        self.bad("marks 0 1\nkept\n0 tell 1\n0 tell 1", 3)
        self.bad(with_line(2, "5 let x = 1"), 3)
        self.bad("marks 0 10000\nkept\n10000 tell 1", 2)

    def test_variables(self):
        # The positions 4 to 8 belong to another transaction than the let at 0.
        self.bad(with_line(5, "4 need x"), 5)
        self.bad(with_line(4, "3 let x = 2"), 4)
        self.bad(with_line(7, "8 let x = 2"), 7)
        self.bad(with_line(2, "0 let x = x"), 2)
        self.bad(with_line(3, "1 put t[x].a = (x + y)"), 3)
        self.assertEqual(len(read_log(with_line(5, "4 let x = 3", "5 need x", "6 put t[x].a = x").replace("7 let x", "7 let y"))[0][1]), 8)
        text = "marks 0 2 4\nkept\n0 let x = 1\n1 tell x\n2 let x = 2\n3 tell x"
        self.assertEqual(len(read_log(text)[0][1]), 4)
        self.bad(text.replace("marks 0 2 4", "marks 0 4"), 4)
        self.bad(text.replace("marks 0 2 4", "marks 0 1 4"), 3)

    def test_statements(self):
        for line in ("1", "1 ", "put t[1].a = 2", "1 tell", "1 tell 1; tell 2", "1 need key", "1 each t if count(t, 1) put a = 1",
                     "1 put t[key].a = 1", "1 let key = 1", "1 get 1", "1 tell (1+2)", "1: tell 1", "1 1 tell 1"):
            self.bad(with_line(3, line), 3)

    def test_the_first_bad_line(self):
        self.bad("marks 0 4\nkept 9\n9 tell x", 1)
        self.bad("marks 0 4\nkept 1\n9 tell x\nnothing", 2)
        self.bad("marks 0 4\nkept 1\n0 tell 1\nnothing\n9 tell x", 3)

    def test_texts_with_one_sign_put_otherwise(self):
        """What is read is shown as the same text; otherwise the lines before the first bad one are such a text."""
        counts = {True: 0, False: 0}
        signs = "abdeiklmnoprstx0123 ;().[]=+-<*,\n"
        for seed in range(2000):
            draw = random.Random(seed)
            log = random_log(draw, 3)
            text = show_log(log, tuple(range(0, len(log[0]), 2)))
            place = draw.randrange(len(text))
            text = text[:place] + draw.choice((draw.choice(signs), "", text[place] * 2)) + text[place + 1:]
            try:
                self.assertEqual(show_log(*read_log(text)), text)
                counts[True] += 1
            except BadText as error:
                counts[False] += 1
                lines = text.split("\n")
                self.bad("\n".join(lines[:error.line + 1]), error.line)
                if error.line > 1:
                    self.assertEqual(len(read_log("\n".join(lines[:error.line]))[0][1]), error.line - 2)
        self.assertGreater(min(counts.values()), 100)

    def test_depth(self):
        inner = "1"
        for _ in range(29):
            inner = f"({inner} + 1)"
        for text in ("0 tell {}", "0 let x = {}", "0 put t[{}].a = 1", "0 put t[1].a = {}", "0 each t if {} put a = 1",
                     "0 each t if 1 put a = {}", "0 need {}"):
            text = "marks 0 1\nkept\n" + text
            log, kept = read_log(text.format(inner))
            self.assertEqual(show_log(log, kept), text.format(inner))
            self.bad(text.format(f"({inner} + 1)"), 2)
            self.bad(text.format(f"(1 + {inner})"), 2)
        self.bad("marks 0 1\nkept\n0 tell " + "(" * 5000, 2)
        self.bad("marks 0 1\nkept\n0 tell " + "t[" * 5000, 2)

    def test_expressions(self):
        for expression, text in PLAIN:
            if is_closed(expression):
                log, _ = read_log(f"marks 0 1\nkept\n0 tell {text}")
                self.assertEqual(log[1], ((0, ("tell", expression)),))


if __name__ == "__main__":
    unittest.main()
