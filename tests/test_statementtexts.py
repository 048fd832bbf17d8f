"""Point 8: the texts of transactions, and lookdone/statementtexts.py."""

import random
import unittest

from lookdone.errors import BadText
from lookdone.expressions import depth_of
from lookdone.statements import is_transaction
from lookdone.statementtexts import read_transaction, show_transaction
from tests.samples import KEY, ONE, OTHER_THINGS, PLAIN, RESERVED, ROWS, TWO, X, random_transaction

# Transactions and their texts.
TEXTS = (
    ((), ""),
    ((("let", "x", ONE),), "let x = 1"),
    ((("need", ONE),), "need 1"),
    ((("tell", ("int", -3)),), "tell -3"),
    ((("put", "t", ONE, "a", TWO),), "put t[1].a = 2"),
    ((("each", "t", KEY, "a", ("+", KEY, ONE)),), "each t if key put a = (key + 1)"),
    ((("each", "in", ("if", KEY, ONE, TWO), "in", ("at", KEY, KEY)),), "each in if if(key, 1, 2) put in = at(key, key)"),
    ((("tell", ("count", "t", (), ROWS, ONE)),), "tell count(t, 1)"),
    (
        (
            ("let", "x", ("int", 3)), ("put", "t", X, "in", ("=", X, ("int", 3))),
            ("each", "t", ("<", ("cell", "t", KEY, "a"), X), "a", X), ("need", ("cell", "t", X, "in")), ("tell", X),
        ),
        "let x = 3\nput t[x].in = (x = 3)\neach t if (t[key].a < x) put a = x\nneed t[x].in\ntell x",
    ),
)

# Texts that are no texts of a transaction, and the numbers of their lines.
BAD_TEXTS = (
    ("let x = 1\nput t[x].in = y", 1),
    ("\n", 0), (" ", 0), ("\n\n", 0), ("let x = 1\n", 1), ("let x = 1\n\nlet y = 1", 1), ("\nlet x = 1", 0),
    ("let x = 1\n\n", 1), ("let x = 1\nlet y = 1\n", 2), ("let x = 1\n ", 1), ("let x = 1\nneed 1\n\nneed 1", 2),
    ("let x = x", 0), ("tell x", 0), ("tell x\nlet x = 1", 0), ("let x = 1\nlet x = 2", 1), ("let x = 1\ntell y\nsay 2", 1),
    ("let x = 1\nsay 2\ntell y", 1), ("let x = 1\nneed 1\nlet x = 1\nlet x = 1", 2), ("need 1\nneed y\nlet y = 1", 1),
    ("put t[x].a = 1", 0), ("let x = 1\neach t if y put a = x", 1), ("let x = 1\neach t if x put a = y", 1),
    ("let x = 1\r\nneed 1", 0), ("let x = 1; need 1", 0), ("need 1\nneed 1 ", 1), ("need 1\n need 1", 1),
    ("tell key", 0), ("need (1 + key)", 0), ("let x = key", 0), ("put t[key].a = 1", 0), ("put t[1].a = key", 0),
    ("tell first(t, 1, key)", 0), ("tell at(key, 1)", 0), ("tell 1\ntell most(t, 1, 1, key)", 1),
    ("each t if count(t, 1) put a = 1", 0), ("each t if 1 put a = sum(t, 1, 1)", 0),
    ("each t if 1 put a = (1 + first(t, 1, 1))", 0), ("need 1\neach t if at(1, most(t, 1, 1, 1)) put a = 1", 1),
)

BAD_LINES = (
    "", " ", "let", "let ", "let x", "let x =", "let x = ", "let x=1", "let x= 1", "let x =1", "let  x = 1", "let x  = 1",
    "let x =  1", " let x = 1", "let x = 1 ", "let x = 1 2", "Let x = 1", "LET x = 1", "letx = 1", "let x == 1", "let 1 = 1",
    "let x := 1", "let t[1].a = 1", "x = 1", "need", "need ", "need  1", "need1", "needs 1", "need 1, 1", "tell", "tell ",
    "tell  1", "tell 1 1", "tell tell 1", "tells 1", "put", "put t[1].a", "put t[1].a =", "put t[1].a = ", "put t[1].a=1",
    "put  t[1].a = 1", "put t [1].a = 1", "put t[ 1].a = 1", "put t[1 ].a = 1", "put t[1] .a = 1", "put t[1]. a = 1",
    "put t.a = 1", "put t[].a = 1", "put t[1] = 1", "put t[1][2].a = 1", "put t[1].a.b = 1", "put x = 1", "put t(1).a = 1",
    "put t[1].a = 1 = 1", "put 1[1].a = 1", "each", "each t", "each t if 1", "each t if 1 put a", "each t if 1 put a = ",
    "each t if 1 put a =1", "each t if1 put a = 1", "each t  if 1 put a = 1", "each t if  1 put a = 1",
    "each t if 1  put a = 1", "each t if 1 put  a = 1", "each t if 1 put a  = 1", "each t put a = 1", "each if 1 put a = 1",
    "each t if 1 put t[1].a = 1", "each t[1] if 1 put a = 1", "each t if 1 let a = 1", "say 1", "key", "1", "x", "(1 + 2)",
    "let x = 01", "let x = (1+2)", "tell -0", "tell 1000000000000000001", "tell let", "tell\t1", "tell 1\t", "tell 1;",
    "tell \u00e9", "\u00e9", "#", "put t[1].a = count(t)", "-", "tell t[1].key", "let let = 1", "let abcdefghi = 1",
)

SIMPLE = ("(@ + 1)", "(1 < @)", "t[@].a", "if(1, 1, @)", "at(1, @)")


def wrapped(text, wrap, times):
    for _ in range(times):
        text = wrap.replace("@", text)
    return text


class StatementTextsTest(unittest.TestCase):

    def check_bad(self, thing, line):
        with self.subTest(thing=thing):
            with self.assertRaises(BadText) as told:
                read_transaction(thing)
            self.assertEqual(told.exception.line, line)

    def test_texts(self):
        for transaction, text in TEXTS:
            with self.subTest(text=text):
                self.assertEqual(show_transaction(transaction), text)
                self.assertEqual(read_transaction(text), transaction)

    def test_each_expression_in_a_tell(self):
        for expression, text in PLAIN:
            transaction = (("let", "x", ONE), ("let", "keys", ONE), ("let", "in", ONE), ("let", "abcdefgh", ONE))
            lines = "let x = 1\nlet keys = 1\nlet in = 1\nlet abcdefgh = 1\n"
            if is_transaction(transaction + (("tell", expression),)):
                self.assertEqual(show_transaction(transaction + (("tell", expression),)), f"{lines}tell {text}")
                self.assertEqual(read_transaction(f"{lines}tell {text}"), transaction + (("tell", expression),))
            else:
                self.check_bad(f"{lines}tell {text}", 4)

    def test_random_transactions(self):
        draw = random.Random(7)
        for _ in range(500):
            transaction = random_transaction(draw, draw.randrange(8))
            text = show_transaction(transaction)
            self.assertEqual(text.count("\n"), max(0, len(transaction) - 1))
            self.assertEqual(read_transaction(text), transaction)

    def test_things_that_are_no_strings(self):
        for thing in (*OTHER_THINGS, *[transaction for transaction, _ in TEXTS], ["tell 1"], ("tell 1",)):
            if not isinstance(thing, str):
                self.check_bad(thing, 0)

    def test_bad_texts(self):
        for text, line in BAD_TEXTS:
            self.check_bad(text, line)

    def test_bad_lines(self):
        for line in BAD_LINES:
            if line:
                self.check_bad(line, 0)
            self.check_bad(f"let x = 1\n{line}", 1)
            self.check_bad(f"let x = 1\nneed 1\n{line}\ntell 1", 2)
            self.check_bad(f"let x = 1\n{line}\n{line}", 1)

    def test_words_are_no_names(self):
        for word in RESERVED:
            for line in (
                f"let {word} = 1", f"put {word}[1].a = 1", f"put t[1].{word} = 1", f"each {word} if 1 put a = 1",
                f"each t if 1 put {word} = 1",
            ):
                self.check_bad(line, 0)
                self.check_bad(f"need 1\n{line}", 1)

    def test_the_first_bad_line_counts(self):
        good = ["let x = 1", "let y = x", "put t[x].a = y", "each t if key put a = x", "need (x = y)", "tell t[y].a"]
        for place in range(len(good) + 1):
            for bad in ("", "tell z", "say", "let q = key", "tell " + wrapped("1", "(@ + 1)", 30)):
                lines = good[:place] + [bad] + good[place:]
                self.check_bad("\n".join(lines), place)
                self.check_bad("\n".join(lines[:place + 1] + ["", "let x = 2"]), place)

    def test_a_line_is_bad_with_those_before_it(self):
        draw = random.Random(8)

        def is_read(text):
            try:
                read_transaction(text)
            except BadText:
                return False
            return True

        for _ in range(200):
            lines = show_transaction(random_transaction(draw, 6)).split("\n")
            draw.shuffle(lines)
            text = "\n".join(lines)
            wanted = [n for n in range(len(lines)) if not is_read("\n".join(lines[:n + 1]))]
            if wanted:
                self.check_bad(text, wanted[0])
            else:
                self.assertEqual(show_transaction(read_transaction(text)), text)

    def test_changed_texts(self):
        draw = random.Random(9)
        signs = "()[].,+-*<= 0123456789abtkeyputlf\n"
        for _ in range(200):
            text = show_transaction(random_transaction(draw, 3))
            for _ in range(20):
                place = draw.randrange(len(text))
                sign = draw.choice(signs)
                for changed in (
                    text[:place] + text[place + 1:], text[:place] + sign + text[place:],
                    text[:place] + sign + text[place + 1:],
                ):
                    try:
                        found = read_transaction(changed)
                    except BadText as error:
                        self.assertIn(error.line, range(changed.count("\n") + 1))
                        continue
                    self.assertIs(is_transaction(found), True)
                    self.assertEqual(show_transaction(found), changed)

    def test_nested_thirty_deep(self):
        for wrap in SIMPLE:
            for line in ("let x = @", "need @", "tell @", "put t[@].a = 1", "put t[1].a = @", "each t if @ put a = 1",
                         "each t if 1 put a = @"):
                text = line.replace("@", wrapped("1", wrap, 29))
                found = read_transaction(text)
                self.assertEqual(max(depth_of(part) for part in found[0] if isinstance(part, tuple)), 30)
                self.assertEqual(show_transaction(found), text)
                text = line.replace("@", wrapped("1", wrap, 30))
                self.check_bad(text, 0)
                self.check_bad(f"need 1\n{text}", 1)
        self.assertEqual(depth_of(read_transaction("tell " + wrapped("1", "count(t, @)", 28))[0][1]), 30)
        self.check_bad("tell 1\ntell " + wrapped("1", "count(t, @)", 29), 1)
        self.check_bad("tell " + "(" * 3990, 0)
        self.check_bad("put " + "t[" * 1990, 0)

    def test_many_lines(self):
        text = "\n".join(["tell 1"] * 500)
        self.assertEqual(read_transaction(text), (("tell", ONE),) * 500)
        self.check_bad("\n" * 4000, 0)

    def test_asked_again_the_answer_is_the_same(self):
        for transaction, text in TEXTS:
            before = repr(transaction)
            self.assertEqual(show_transaction(transaction), show_transaction(transaction))
            self.assertEqual(read_transaction(text), read_transaction(text))
            self.assertEqual(repr(transaction), before)


if __name__ == "__main__":
    unittest.main()
