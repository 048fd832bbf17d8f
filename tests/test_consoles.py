"""Point 36: lookdone/consoles.py."""

import random
import unittest

from lookdone.consoles import Console
from lookdone.errors import BadRow, Closed, Conflict, NoSession, NoSlot, NotKept, Refused, StoreError
from lookdone.evaluation import needed
from lookdone.expressiontexts import show_expression
from lookdone.leading import cut_look
from lookdone.slotspans import span_of
from lookdone.statementtexts import show_transaction
from lookdone.stores import LazyStore
from tests.randomlogs import expression, rows, transaction
from tests.samples import L, OTHER_THINGS, RESERVED
from tests.test_chains import MANY

WORDS = ("do", "look", "cut", "needs", "span", "evaluated", "moment", "early", "keep", "free", "open", "in", "close",
         "restart", "compact")

SLOT_WORDS = ("let", "need", "tell", "key", "value", "guard")


class ConsoleTest(unittest.TestCase):

    def setUp(self):
        self.console = Console()

    def say(self, *rows):
        """The answer to the last of these rows."""
        return [self.console.say(row) for row in rows][-1]

    def check(self, row, answer):
        with self.subTest(row=row[:200]):
            self.assertEqual(self.console.say(row), answer)

    def state(self):
        store = self.console.store
        return store.log, store.journal, store.kept, len(self.console.sessions)

    def raises(self, error, row, **told):
        before = self.state()
        with self.subTest(row=repr(row)[:200]):
            with self.assertRaises(error) as raised:
                self.console.say(row)
            self.assertIs(type(raised.exception), error)
            self.assertEqual(vars(raised.exception), told)
            self.assertEqual(self.state(), before)

    def bad(self, *rows):
        for row in rows:
            self.raises(BadRow, row)


class RowsTest(ConsoleTest):

    def test_examples(self):
        self.assertEqual((self.say("do put t[1].a = 4; tell t[1].a"), self.say("look t[1].a"), self.say("evaluated")),
                         ("ok 4", "4", "0"))
        self.console = Console()
        self.say("do let x = count(s, 1); put t[x].a = 6")
        self.assertEqual((self.say("needs t[1].a"), self.say("look t[0].a"), self.say("cut 1 t[0].a")),
                         ("0 let, 1 key", "6", "6 1"))
        self.console = Console()
        self.bad("look  t[1].a")

    def test_words(self):
        self.assertEqual(Console.WORDS, WORDS)
        self.assertEqual(self.console.WORDS, WORDS)

    def test_do(self):
        self.check("do", "ok")
        self.check("do put t[1].a = 5", "ok")
        self.check("do tell 1; tell t[1].a; tell (t[1].a * -3)", "ok 1 5 -15")
        self.check("do tell 7", "ok 7")
        self.check("do let x = 1; let y = x; put t[x].a = y; each t if key put b = 3; need y", "ok")
        self.check("moment", "5")
        self.raises(Refused, "do tell 3; need (t[1].a = 5)", number=1)
        self.raises(Refused, "do need 0", number=0)
        self.check("moment", "5")

    def test_do_that_is_no_row(self):
        self.bad("do ", "do  ", "do  tell 1", "do tell 1 ", "do tell 1;", "do tell 1; ", "do tell 1;tell 2", "do tell 1 ; tell 2",
                 "do tell 1;  tell 2", "do ; tell 1", "do ; ", "do;", "do tell x", "do let x = 1; let x = 2", "do need key",
                 "do tell", "do tell (1+2)", "do get 1", "do tell 1\ntell 2", "do\n", "do\ntell 1", "dotell 1", " do", "Do",
                 "do tell 1; nothing", "do put t[1].a = 1; tell y", "do do tell 1", "do\ttell 1", "tell 1", "do tell 1, tell 2")
        self.check("moment", "0")

    def test_look(self):
        self.say("do put t[1].a = 5", "keep", "do put t[1].a = (count(s, 1) + 6)")
        self.check("look t[1].a", "6")
        self.check("look 2 t[1].a", "6")
        self.check("look 1 t[1].a", "5")
        self.check("look 1 1", "1")
        self.check("look 1 (t[1].a - 7)", "-2")
        self.check("look (t[1].a - 7)", "-1")
        # A number alone is an expression.
        self.check("look 1", "1")
        self.check("look 7", "7")
        self.check("look -7", "-7")
        self.check(f"look {L}", str(L))
        for moment in (0, 3, 10, 10 ** 20, 10 ** 3999):
            row = f"look {moment} t[1].a" if moment < 10 ** 30 else f"look 1{'0' * 3999} t[1].a"
            self.raises(NotKept, row, wanted=moment)
        self.assertEqual(self.say("evaluated"), "1")

    def test_look_that_is_no_row(self):
        self.say("keep")
        self.bad("look", "look ", "look  1", "look 1 ", "look 0  1", "look 00 1", "look 01 1", "look -0 1", "look -1 1", "look +0 1",
                 "look 0 1 1", "look x", "look key", "look 0 x", "look 0 key", "look t[key].a", "look (1+2)", "look 0, 1",
                 "look t[1].a ", "look 0 t[1].a ", f"look {L + 1}", "look 1_0", "look\n1", "look 1\n", f"look 1{'0' * 4000} 1",
                 f"look {'0' * 4000} 1", "look 0.0 1", "look 0 look 1", "look None 1", "look t[1]", "look count(t,1)")
        deep = "1"
        for _ in range(30):
            deep = f"({deep} + 1)"
        self.bad(f"look {deep}", f"look 0 {deep}")
        self.check(f"look {deep[1:-5]}", "30")

    def test_cut(self):
        self.say("do let x = count(s, 1); put t[1].a = (x + 1); put t[2].a = (t[1].a + x)")
        self.check("cut 0 t[2].a", "1 0")
        self.check("evaluated", "0")
        self.check("cut 2 t[2].a", "1 2")
        self.check("evaluated", "2")
        # How many it needs, known or not.
        self.check("cut 2 t[2].a", "1 2")
        self.check("cut 1 t[2].a", "1 1")
        self.check("cut 3 t[2].a", "1 3")
        self.check("cut 3 5", "5 0")
        self.check("evaluated", "3")
        self.check("cut 0 t[2].a", "1 0")
        self.bad("cut", "cut ", "cut 0", "cut t[2].a", "cut 4 t[2].a", "cut -1 1", "cut 00 1", "cut 0  1", "cut 0 x", "cut 0 key",
                 "cut 0 ", "cut  0 1", "cut 0 1 ", "cut 0 1 1", "cut x 1", f"cut 1{'0' * 3999} 1", f"cut 1{'0' * 4000} 1")
        self.check("cut 0 0", "0 0")

    def test_needs_span_evaluated_moment(self):
        self.check("needs t[1].a", "none")
        self.check("span t[1].a", "0 0")
        self.say("do put t[1].in = 1; let x = count(s, 1); put t[(x + 1)].a = (x + 5); each t if (key < x) put b = (x - 1)")
        self.check("needs t[1].a", "1 let, 2 key, 2 value")
        self.check("needs t[1].b", "1 let, 3 guard 1")
        self.say("do put t[-5].in = 1; each t if 1 put c = count(s, 1)".replace("count(s, 1)", "t[1].a"))
        self.check("needs t[-5].c", "1 let, 2 key, 2 value, 5 value -5")
        self.check("needs 7", "none")
        self.check("span (t[1].a + 1)", f"1 {L}")
        self.check("span t[1].b", f"{-1} {L - 1}")
        self.check("span 7", "7 7")
        self.check("evaluated", "0")
        self.check("moment", "2")
        self.say("look t[1].a")
        self.check("needs t[1].a", "1 let, 2 key, 2 value")
        self.check("evaluated", "3")
        self.bad("needs", "needs ", "needs 0 t[1].a", "needs x", "needs key", "span", "span ", "span 0 t[1].a", "span  1", "span x",
                 "evaluated ", "evaluated 1", "moment ", "moment 1", "evaluated\n", " moment", "moments", "eval")

    def test_early(self):
        self.say("do let x = count(s, 1); put t[x].in = (x + 1); each t if (key = x) put a = (key + x); need 1; tell (x + 2)")
        self.check("evaluated", "2")
        self.check("early 0 let", "0")
        self.check("early 4 tell", "2")
        self.check("early 3 need", "1")
        self.check("evaluated", "2")
        self.check("early 1 key", "0")
        self.check("early 1 value", "1")
        self.check("early 2 guard 0", "1")
        self.check("early 2 guard 7", "0")
        self.check("early 2 value -7", "-7")
        self.check(f"early 2 value {-L}", str(-L))
        self.check(f"early 2 value {L}", str(L))
        self.check("evaluated", "8")

    def test_early_without_such_a_slot(self):
        self.say("do let x = count(s, 1); put t[x].in = (x + 1); each t if (key = x) put a = (key + x); need 1; tell (x + 2)")
        right = {0: ("let",), 1: ("key", "value"), 2: ("guard", "value"), 3: ("need",), 4: ("tell",)}
        for position in (0, 1, 2, 3, 4, 5, 10 ** 20):
            for word in SLOT_WORDS:
                is_there = word in right.get(position, ())
                if not is_there or position == 2:
                    self.raises(NoSlot, f"early {position} {word}", slot=(position, word))
                for key in (0, 5, -5, L + 1, -L - 1, 10 ** 50):
                    if position != 2 or not is_there or abs(key) > L:
                        self.raises(NoSlot, f"early {position} {word} {key}", slot=(position, word, key))
        ones = 0
        for _ in range(4000):
            ones = 10 * ones + 1
        self.raises(NoSlot, f"early {'1' * 4000} let", slot=(ones, "let"))
        self.raises(NoSlot, f"early 2 value -{'1' * 4000}", slot=(2, "value", -ones))
        self.raises(NoSlot, f"early 2 value {'1' * 4001}", slot=(2, "value", 10 * ones + 1))
        self.bad("early", "early ", "early 0", "early 0 ", "early let", "early 0 Let", "early 0 let ", "early  0 let", "early 0  let",
                 "early 00 let", "early -1 let", "early -0 let", "early x let", "early 0 let let", "early 2 value 00",
                 "early 2 value -0", "early 2 value 01", "early 2 value -", "early 2 value --1", "early 2 value +1", "early 2 value 1 1",
                 "early 2 value 1 ", "early 2 value x", "early 2 value 1.0", "early 0 tells", "early 0 each", "early 0 put",
                 "early 0 let\n", f"early {'1' * 4001} let", "early 2 value \u0661", "early (0, let)")

    def test_keep_and_free(self):
        self.check("keep", "0")
        self.say("do put t[1].a = 1")
        self.check("keep", "1")
        self.check("keep", "1")
        self.say("do put t[1].a = 2")
        self.check("look 0 t[1].a", "0")
        self.check("free 0", "ok")
        self.raises(NotKept, "look 0 t[1].a", wanted=0)
        self.raises(NotKept, "free 0", wanted=0)
        self.raises(NotKept, "free 2", wanted=2)
        self.raises(NotKept, f"free {'9' * 21}", wanted=10 ** 21 - 1)
        self.check("free 1", "ok")
        self.raises(NotKept, "free 1", wanted=1)
        self.bad("keep ", "keep 0", "free", "free ", "free 00", "free -1", "free x", "free 0 0", "free 0 ", "free  0", "free None",
                 f"free 1{'0' * 4000}")

    def test_other_things(self):
        self.bad(*OTHER_THINGS)
        self.bad(b"moment", ["moment"], ("moment",), {"moment": 0}, 0, True, None, "", " ", "\n", "moment\n", "\nmoment", "mo\nment",
                 "help", "exit", "look\u00a01", "MOMENT", "moment;", "evaluated; moment")
        self.bad(*RESERVED, *[f"{word} 1" for word in RESERVED])
        for word in WORDS:
            self.bad(f" {word}", word + "\t", word.upper(), word[:-1], word + word, f"{word}\n", f"{word}  0", f"{word} 0  0", f"{word} x",
                     f"{word} key", f"{word} 0 0 0 0")


class SessionsTest(ConsoleTest):

    def test_sessions(self):
        self.say("do put t[1].a = 1")
        self.check("open", "0")
        self.check("open", "1")
        self.check("in 0 look t[1].a", "1")
        self.check("in 0 do put t[1].a = (t[1].a + 1); tell t[1].a; tell 7", "ok 2 7")
        self.check("in 0 do", "ok")
        self.check("in 0 look 5", "5")
        self.check("in 0 look t[1].a", "2")
        self.check("in 1 look t[1].a", "1")
        self.check("look t[1].a", "1")
        self.raises(Refused, "in 0 do tell 1; need (t[1].a = 1)", number=1)
        self.check("open", "2")
        self.check("in 2 look t[1].a", "1")
        self.check("moment", "1")
        self.check("close 0", "3")
        self.check("look t[1].a", "2")
        with self.assertRaises(Conflict) as raised:
            self.console.say("close 1")
        self.assertEqual(raised.exception.number, 0)
        for number in (0, 1):
            self.raises(Closed, f"in {number} look 1")
            self.raises(Closed, f"in {number} do")
            self.raises(Closed, f"close {number}")
        self.check("in 2 do put t[2].a = 1", "ok")
        self.check("open", "3")
        self.check("close 3", "3")

    def test_a_refused_event_is_one(self):
        self.say("open")
        self.raises(Refused, "in 0 do need t[1].a", number=0)
        self.say("do put t[1].a = 1")
        with self.assertRaises(Conflict) as raised:
            self.say("close 0")
        self.assertEqual(raised.exception.number, 0)

    def test_no_session(self):
        for number in (0, 1, 10 ** 30):
            for row in (f"in {number} look 1", f"in {number} do", f"in {number} do need 0", f"close {number}"):
                self.raises(NoSession, row, number=number)
        self.say("open")
        self.check("in 0 look 3", "3")
        self.raises(NoSession, "in 1 look 1", number=1)
        self.raises(NoSession, "close 1", number=1)
        number = 0
        for _ in range(4000):
            number = 10 * number + 9
        self.raises(NoSession, f"close {'9' * 4000}", number=number)
        self.raises(NoSession, f"in {'9' * 4000} do", number=number)

    def test_bad_rows_come_first(self):
        """Then the session that there is not, then what the session raises."""
        for number in ("0", "7"):
            self.bad("in", "in ", f"in {number}", f"in {number} ", f"in {number} look", f"in {number} look ", f"in {number} do ",
                     f"in {number} look x", f"in {number} look key", f"in {number} look 0 1", f"in {number} look (1+2)",
                     f"in {number} do tell x", f"in {number} do ; ", f"in {number} do tell 1;", f"in {number}  look 1",
                     f"in  {number} look 1", f"in {number} look  1", f"in {number} close", f"in {number} keep", f"in {number} moment",
                     f"in 0{number} look 1", f"in -{number} look 1", f"in +{number} do", f"in x{number} do", f"in {number}, do",
                     f"in {number} cut 0 1", f"in {number} doo", f"in {number} in {number} do", "in look 1", "in do",
                     f"in {'9' * 4001} do", f"close {'9' * 4001}", f"close 0{number}", f"close -{number}", f"close {number} ",
                     f"close  {number}", f"close {number} {number}", "close", "close ", "close x", "open ", "open 0", "in\n0 do")
        self.say("open", "close 0")
        self.bad("in 0 look x", "in 0 do tell x", "in 0 do ", "close 00")
        self.raises(NoSession, "in 1 look 1", number=1)
        self.raises(Closed, "in 0 look 1")
        self.raises(Closed, "in 0 do need 0")

    def test_events_evaluate_what_is_the_stores(self):
        self.say("do put t[1].a = count(s, 1)", "open", "in 0 do put t[2].a = count(s, 1)")
        self.check("in 0 look (t[1].a + t[2].a)", "0")
        self.check("evaluated", "1")
        self.check("close 0", "2")
        self.check("evaluated", "2")


class RestartsTest(ConsoleTest):

    def setUp(self):
        self.console = Console()
        self.say("keep", "do let x = count(s, 1); put t[x].a = (x + 1); put t[5].a = 2", "do put t[0].a = (t[0].a + 1)")

    def test_restart(self):
        self.check("look t[0].a", "2")
        self.check("evaluated", "4")
        before = self.state()
        for many in (4, 3, 2, 0):
            self.check(f"restart {many}", "ok")
            log, journal, kept, _ = self.state()
            self.assertEqual((log, kept, journal), (before[0], before[2], before[1][:many]))
            self.check("evaluated", str(many))
        self.check("look 0 t[0].a", "0")
        self.check("look t[0].a", "2")
        self.check("evaluated", "4")

    def test_restart_with_too_many(self):
        self.bad("restart 1", "restart 5", f"restart {'9' * 4000}")
        self.say("look t[0].a")
        self.bad("restart 5", f"restart {'9' * 4000}", f"restart {'9' * 4001}", "restart", "restart ", "restart -1", "restart 00",
                 "restart x", "restart 1 1", "restart  1", "restart 1 ", "restart 1.0")
        self.check("restart 4", "ok")
        self.bad("restart 5")
        self.check("restart 1", "ok")
        self.bad("restart 2")

    def test_compact(self):
        self.check("compact", "4")
        self.say("look t[0].a")
        self.check("compact", "2")
        self.check("evaluated", "0")
        self.check("look t[0].a", "2")
        self.check("look t[5].a", "2")
        self.check("look 0 t[0].a", "0")
        self.check("evaluated", "0")
        self.check("compact", "2")
        self.check("moment", "2")
        self.check("do tell t[0].a", "ok 2")
        self.check("compact", "2")
        self.bad("compact ", "compact 0", "compacts")
        self.console = Console()
        self.check("compact", "0")

    def test_sessions_are_gone(self):
        for row in ("restart 0", "compact"):
            self.say("open", "open", "in 1 do put t[1].a = 1", row)
            self.raises(NoSession, "in 0 look 1", number=0)
            self.raises(NoSession, "in 1 do", number=1)
            self.raises(NoSession, "close 1", number=1)
            self.check("open", "0")
            self.check("in 0 look t[5].a", "2")
            self.raises(NoSession, "close 1", number=1)
            self.check("open", "1")
            self.check("close 0", "2")
            self.raises(Closed, "close 0")
        # A refused row leaves the sessions as they are.
        self.bad("restart 100")
        self.check("in 1 look 3", "3")

    def test_nothing_is_evaluated(self):
        before = self.state()
        for row in ("needs t[0].a", "span t[0].a", "evaluated", "moment", "needs (t[0].a + t[5].a)"):
            self.say(row)
            self.assertEqual(self.state(), before)


class BesideAStoreTest(ConsoleTest):

    def test_random_rows(self):
        """Each row beside a store to which the same is done; refused rows, too."""
        self.counts = {}
        for seed in range(150):
            draw = random.Random(seed)
            self.console = Console()
            self.store, self.sessions = LazyStore(), []
            self.say(f"do {self.shown(rows(draw))}")
            self.store.commit(rows(random.Random(seed)))
            for _ in range(12):
                row, done = self.drawn(draw)
                self.step(row, done)
                self.assertEqual((self.console.store.log, self.console.store.journal, self.console.store.kept),
                                 (self.store.log, self.store.journal, self.store.kept))
        self.assertEqual(set(self.counts), set(WORDS))
        self.assertGreater(min(self.counts.values()), 15)

    def step(self, row, done):
        with self.subTest(row=row):
            try:
                wanted = done()
            except StoreError as error:
                with self.assertRaises(type(error)) as raised:
                    self.console.say(row)
                self.assertEqual(vars(raised.exception), vars(error))
            else:
                self.assertEqual(self.console.say(row), wanted)
        word = row.split(" ")[0]
        self.counts[word] = self.counts.get(word, 0) + 1

    def shown(self, one):
        return "; ".join(show_transaction(one).split("\n"))

    def drawn(self, draw):
        """A row, and what is done to the store for it."""
        store, end = self.store, self.store.log[0][-1]
        word = draw.choice(WORDS + ("do", "do", "look", "look", "in", "in"))
        look, one = expression(draw, 3), transaction(draw, draw.randrange(4))
        number = draw.randrange(4)
        if word == "do":
            return f"do {self.shown(one)}" if one else "do", lambda: self.told(store.commit(one))
        if word == "look":
            moment = draw.choice((None, number))
            row = f"look {show_expression(look)}" if moment is None else f"look {moment} {show_expression(look)}"
            return row, lambda: str(store.look(look, moment=moment))
        if word == "cut":
            cut = draw.randint(0, end)
            many = len(cut_look(store.log, look, end, cut)[1])
            return f"cut {cut} {show_expression(look)}", lambda: f"{store.look(look, cut=cut)} {many}"
        if word == "needs":
            slots = ", ".join(" ".join(map(str, slot)) for slot in needed(store.log, look, end))
            return f"needs {show_expression(look)}", lambda: slots or "none"
        if word == "span":
            return f"span {show_expression(look)}", lambda: " ".join(map(str, span_of(store.log, look, end)))
        if word == "early":
            slot = draw.choice(((number, draw.choice(SLOT_WORDS)), (draw.randint(0, end), draw.choice(SLOT_WORDS), number - 1)))
            return f"early {' '.join(map(str, slot))}", lambda: str(store.early(slot))
        if word == "free":
            return f"free {number}", lambda: "ok" if store.free(number) is None else None
        if word == "restart":
            many = draw.randint(0, len(store.journal))
            return f"restart {many}", lambda: self.replaced(store.saved(), store.journal[:many]) and "ok"
        if word == "compact":
            return "compact", lambda: str(len(self.replaced(store.compacted(), ()).log[1]))
        if word in ("in", "open", "close"):
            return self.drawn_session(draw, word, look, one, number)
        return word, {"evaluated": lambda: str(len(store.journal)), "moment": lambda: str(store.moment),
                      "keep": lambda: str(store.keep())}[word]

    def drawn_session(self, draw, word, look, one, number):
        if word == "open":
            return "open", lambda: self.sessions.append(self.store.session()) or str(len(self.sessions) - 1)
        if word == "close":
            return f"close {number}", lambda: str(self.session(number).close())
        if draw.random() < 0.5:
            return f"in {number} look {show_expression(look)}", lambda: str(self.session(number).look(look))
        row = f"in {number} do {self.shown(one)}" if one else f"in {number} do"
        return row, lambda: self.told(self.session(number).do(one))

    def told(self, values):
        return " ".join(["ok", *map(str, values)])

    def session(self, number):
        if number >= len(self.sessions):
            raise NoSession(number)
        return self.sessions[number]

    def replaced(self, text, journal):
        self.store, self.sessions = LazyStore.restart(text, journal), []
        return self.store


class ChainTest(ConsoleTest):

    def test_a_chain_of_400_statements(self):
        self.say("do put t[1].a = (count(s, 1) + 1)")
        for _ in range(21):
            self.say(f"do {'; '.join(['put t[1].a = (t[1].a * t[1].a)'] * 19)}")
        self.assertEqual(self.console.store.log[0][-1], MANY)
        self.check("span t[1].a", f"1 {L}")
        self.assertEqual(len(self.say("needs t[1].a").split(", ")), MANY)
        self.check("cut 0 t[1].a", "1 0")
        self.check("cut 57 t[1].a", "1 57")
        self.check("evaluated", "57")
        self.check("early 200 value", "1")
        self.check("evaluated", "201")
        self.check("look t[1].a", "1")
        self.check("evaluated", str(MANY))
        self.check("restart 100", "ok")
        self.check("look t[1].a", "1")
        self.check("compact", "1")


if __name__ == "__main__":
    unittest.main()
