"""Point 3: the guarantee, over drawn runs of everything that can be done to a store."""

import random
import unittest

from lookdone.errors import Closed, Conflict, Refused
from lookdone.evaluation import evaluated, needed, value_of
from lookdone.findings import finding_holds
from lookdone.leading import cut_look
from lookdone.logs import is_log
from lookdone.plain import PlainStore
from lookdone.sessions import Session
from lookdone.slots import expression_of
from lookdone.slotspans import slot_span, span_of
from lookdone.statementtexts import read_transaction
from lookdone.stores import LazyStore
from lookdone.tracechecks import trace_holds
from lookdone.traces import trace_of
from lookdone.views import view
from tests.randomlogs import expression, rows, transaction
from tests.samples import KEY, L, ONE
from tests.slow import SlowLog
from tests.slowwhole import SlowOpened, SlowWhole
from tests.test_chains import MANY, lets
from tests.texts import chain, query


class PlainSession:
    """A session on a plain store: it is as if all of it had been done at the end."""

    def __init__(self, transactions):
        self.transactions = list(transactions)
        self.events = []

    def result(self, transactions, word, thing):
        """The result of an event; an accepted transaction is added to those before."""
        store = replayed(transactions)
        if word == "look":
            return store.value(thing)
        try:
            told = store.commit(thing)
        except Refused as refused:
            return [refused.number]
        transactions.append(thing)
        return told

    def happens(self, word, thing):
        self.events.append((word, thing, self.result(self.transactions, word, thing)))
        return self.events[-1][2]

    def close(self, transactions):
        """The number of the first event with another result, or the transactions then."""
        found = list(transactions)
        for number, (word, thing, told) in enumerate(self.events):
            if self.result(found, word, thing) != told:
                return number
        return found


def replayed(transactions):
    store = PlainStore()
    for one in transactions:
        store.commit(one)
    return store


WORDS = ("commit", "commit", "commit", "look", "look", "keep", "free", "early", "work", "cut", "open", "event", "event", "event",
         "close", "restart", "compact")


class Run:
    """A lazy store, the slow one beside it, and the transactions of a plain one."""

    def __init__(self, test, draw):
        self.test = test
        self.draw = draw
        self.lazy = LazyStore()
        self.slow = SlowWhole()
        self.transactions = []
        self.sessions = []
        self.counts = {}
        self.known = {}

    def step(self, word):
        getattr(self, "do_" + word)()
        self.check()

    def count(self, word):
        self.counts[word] = self.counts.get(word, 0) + 1

    def check(self):
        test, lazy = self.test, self.lazy
        test.assertEqual((lazy.log, lazy.journal, lazy.kept),
                         (self.slow.log, tuple(self.slow.journal), tuple(sorted(self.slow.kept))))
        test.assertEqual(lazy.moment, len(self.transactions))
        test.assertIs(is_log(lazy.log), True)
        # No slot twice between two restarts.
        slots = [slot for slot, _ in lazy.journal]
        test.assertEqual(len(set(slots)), len(slots))

    def moment(self):
        return self.draw.choice((None, self.lazy.moment) + self.lazy.kept)

    def plain(self, look, moment):
        return replayed(self.transactions[:moment]).value(look)

    def transaction(self):
        """A transaction; often one that others can be told of by a look at a cell."""
        if self.draw.random() < 0.5:
            return transaction(self.draw, self.draw.randrange(5))
        cell = self.cell()
        return (("put", cell[1], cell[2], cell[3], ("int", self.draw.randrange(3))),)

    def cell(self):
        return ("cell", "t", ("int", self.draw.randrange(2)), self.draw.choice(("a", "a", "in")))

    def do_commit(self, one=None):
        one = self.transaction() if one is None else one
        plain = PlainSession(self.transactions)
        wanted = plain.happens("do", one)
        self.test.assertEqual(self.slow.do(one), wanted)
        try:
            self.test.assertEqual(self.lazy.commit(one), wanted)
        except Refused as refused:
            self.test.assertEqual([refused.number], wanted)
            self.count("refused")
        self.transactions = plain.transactions

    def do_look(self):
        look, moment = expression(self.draw, 4), self.moment()
        before = {slot for slot, _ in self.lazy.journal}
        wanted = self.plain(look, moment)
        self.test.assertEqual((self.lazy.look(look, moment=moment), self.slow.look(look, moment)), (wanted, wanted))
        position = self.slow.position(moment)
        log = self.lazy.log
        slots = needed(log, look, position)
        after = {slot for slot, _ in self.lazy.journal}
        self.test.assertEqual(after - before, set(slots) - before)
        self.test.assertEqual((value_of(log, look, position), cut_look(log, look, position, position)), (wanted, (wanted, slots)))
        self.test.assertIs(trace_holds(log, look, position, trace_of(log, look, position)), True)
        low, high = span_of(log, look, position)
        self.test.assertTrue(low <= wanted <= high)
        self.count("needed" if slots else "look")

    def do_keep(self):
        self.slow.kept.add(self.lazy.keep())

    def do_free(self):
        if self.lazy.kept:
            moment = self.draw.choice(self.lazy.kept)
            self.lazy.free(moment)
            self.slow.kept.remove(moment)

    def do_early(self):
        if self.lazy.log[1]:
            position, statement = self.draw.choice(self.lazy.log[1])
            words = {"put": ("key", "value"), "each": ("guard", "value")}.get(statement[0], (statement[0],))
            slot = (position, self.draw.choice(words)) + ((self.draw.randrange(4),) if statement[0] == "each" else ())
            value = self.lazy.early(slot)
            self.test.assertEqual(self.slow.ask(slot), value)
            self.test.assertEqual(value_of(self.lazy.log, expression_of(self.lazy.log, slot), position), value)

    def do_work(self):
        looks = [(expression(self.draw, 4), self.moment()) for _ in range(self.draw.randrange(4))]
        turns = tuple(self.draw.randrange(len(looks)) for _ in range(self.draw.randrange(8))) if looks else ()
        before = {slot for slot, _ in self.lazy.journal}
        told = self.lazy.work(*looks, turns=turns)
        self.test.assertEqual(told, self.slow.work(looks, turns))
        self.test.assertEqual(told[0], tuple(self.plain(*look) for look in looks))
        wanted = {slot for look, moment in looks for slot in needed(self.lazy.log, look, self.slow.position(moment))}
        self.test.assertEqual({slot for slot, _ in told[1]}, wanted - before)
        self.count("begun" if told[1] else "work")

    def do_cut(self):
        look, moment = expression(self.draw, 3), self.moment()
        position = self.slow.position(moment)
        cut = self.draw.randint(0, position)
        wanted = self.slow.look(look, moment, cut)
        if wanted is None:
            return
        before = {slot for slot, _ in self.lazy.journal}
        self.test.assertEqual(self.lazy.look(look, moment=moment, cut=cut), wanted)
        self.test.assertEqual(self.plain(look, moment), wanted)
        below = tuple(slot for slot in needed(self.lazy.log, look, position) if slot[0] < cut)
        self.test.assertEqual({slot for slot, _ in self.lazy.journal} - before, set(below) - before)
        self.test.assertEqual(cut_look(self.lazy.log, look, position, cut), (wanted, below))
        self.count("cut below" if below else "cut")

    def do_open(self):
        make = self.draw.choice((self.lazy.session, lambda: Session(self.lazy)))
        self.sessions.append((make(), SlowOpened(self.slow), PlainSession(self.transactions)))
        self.do_event()

    def do_event(self):
        if not self.sessions:
            return
        session, slow, plain = self.draw.choice(self.sessions[-2:])
        word = self.draw.choice(("look", "do"))
        thing = self.draw.choice((self.cell(), expression(self.draw, 3))) if word == "look" else self.transaction()
        wanted = plain.happens(word, thing)
        self.test.assertEqual(slow.happens(word, thing), wanted)
        try:
            self.test.assertEqual(getattr(session, word)(thing), wanted)
        except Refused as refused:
            self.test.assertEqual([refused.number], wanted)
        self.test.assertEqual(session.events, len(plain.events))

    def do_close(self):
        if not self.sessions:
            return
        session, slow, plain = self.sessions.pop(0)
        wanted = plain.close(self.transactions)
        if isinstance(wanted, list):
            self.test.assertIsNone(slow.close())
            self.test.assertEqual(session.close(), len(wanted))
            self.transactions = wanted
            self.count("closed")
        else:
            self.test.assertEqual(slow.close(), wanted)
            with self.test.assertRaises(Conflict) as raised:
                session.close()
            self.test.assertEqual(raised.exception.number, wanted)
            self.count("conflict")
        self.test.assertIs(session.is_closed, True)
        for call in (session.close, lambda: session.look(ONE), lambda: session.do(())):
            self.test.assertRaises(Closed, call)

    def do_restart(self):
        many = self.draw.randint(0, len(self.lazy.journal))
        self.lazy, self.slow = LazyStore.restart(self.lazy.saved(), self.lazy.journal[:many]), self.slow.restarted(many)
        self.sessions = []

    def do_compact(self):
        known = dict(self.lazy.journal)
        self.lazy, self.slow = LazyStore.restart(self.lazy.compacted()), self.slow.compacted()
        self.sessions = []
        # Nothing that was evaluated is evaluated again.
        words = {position: statement[0] for position, statement in self.lazy.log[1]}
        for slot, value in known.items():
            if slot[0] in words and words[slot[0]] != "let":
                self.test.assertEqual(slot_span(self.lazy.log, slot), (value, value))
                self.count("still known")

    def look_everywhere(self):
        """Every cell and the rows, at every moment that can be looked at."""
        for moment in (None,) + self.lazy.kept:
            plain = replayed(self.transactions[:moment])
            for table in ("t", "s"):
                for look in [query(f"count({table}, 1)"), query(f"sum({table}, 1, ({table}[key].a + {table}[key].b))")] + [
                        ("cell", table, ("int", key), column) for key in range(-1, 4) for column in ("a", "b", "in")]:
                    self.test.assertEqual(self.lazy.look(look, moment=moment), plain.value(look))
                columns = ("a", "in")
                lines = [("key",) + columns] + [
                    (key, *[plain.value(("cell", table, ("int", key), column)) for column in columns])
                    for key in self.present(plain, table)
                ]
                self.test.assertEqual(view(self.lazy, table, *columns, moment=moment),
                                      "\n".join(" ".join(str(part).rjust(8) for part in line) for line in lines))

    def present(self, plain, table):
        found, look = [], query(f"first({table}, 1, 0)")
        for _ in range(plain.value(query(f"count({table}, 1)"))):
            found.append(plain.value(look))
            look = ("first", table, (), ("cell", table, KEY, "in"), ("<", ("int", found[-1]), KEY), ("int", 0))
        return found


class GuaranteeTest(unittest.TestCase):

    def test_drawn_runs(self):
        counts = {}
        for seed in range(600):
            with self.subTest(seed=seed):
                draw = random.Random(seed)
                run = Run(self, draw)
                run.do_commit(rows(draw))
                words = draw.choice((WORDS, WORDS[:-2]))
                for _ in range(draw.randrange(10, 30)):
                    run.step(draw.choice(words))
                run.look_everywhere()
            for word, many in run.counts.items():
                counts[word] = counts.get(word, 0) + many
        for word in ("refused", "needed", "begun", "cut below", "closed", "conflict", "still known"):
            self.assertGreater(counts.get(word, 0), 15, counts)


class ChainTest(unittest.TestCase):
    """Chains of 400 statements through every part of the program."""

    def check(self, log, text, many):
        self.assertEqual(len(log[1]), MANY)
        look, end = query(text), log[0][-1]
        value, found = evaluated(log, look, end)
        slots = needed(log, look, end)
        self.assertEqual(len(slots), many)
        below = tuple(slot for slot in slots if slot[0] < 150)
        for finding in (("value", log, look, end, value), ("span", log, look, end, *span_of(log, look, end)),
                        ("needs", log, look, end, slots), ("trace", log, look, end, (value, tuple(sorted(found)))),
                        ("cut", log, look, end, 150, value, below)):
            self.assertIs(finding_holds(finding), True)
        store = self.stored(log)
        self.assertEqual(store.look(look, cut=150), value)
        self.assertEqual(sorted(slot for slot, _ in store.journal), list(below))
        other = LazyStore.restart(store.saved(), store.journal[:70])
        self.assertEqual(other.journal, store.journal[:70])
        session = other.session()
        self.assertEqual((session.look(look), session.close()), (value, store.moment))
        self.assertEqual(sorted(other.journal), sorted(found))
        # The order is that of point 18, with just the first entries known.
        wanted = evaluated(log, look, end, entries=tuple(sorted(store.journal[:70])))[1]
        self.assertEqual(other.journal[70:], wanted)
        self.assertEqual(finding_holds(("compact", log, (store.moment,), tuple(sorted(found)), other_log(other))), True)
        compacted = LazyStore.restart(other.compacted())
        self.assertEqual((compacted.look(look), compacted.journal), (value, ()))
        self.assertEqual(compacted.work((look, None), (look, None)), ((value, value), ()))

    def stored(self, log):
        """A store to which the transactions of the log were committed."""
        store = LazyStore()
        marks, entries = log
        for start, end in zip(marks, marks[1:]):
            self.assertEqual(store.commit(tuple(statement for _, statement in entries[start:end])), ())
        self.assertEqual((store.log, store.journal), (log, ()))
        return store

    def test_puts(self):
        self.check(chain("put t[1].a = count(s, 1)", *["put t[1].a = (t[1].a + 1)"] * (MANY - 1)), "t[1].a", MANY)
        self.check(chain("put t[1].a = (count(s, 1) + 1)", *["put t[1].a = (t[1].a * t[1].a)"] * (MANY - 1)), "t[1].a", MANY)
        step = "put t[(t[1].a + 1)].a = (t[2].a + 1)"
        self.check(chain("put t[(count(s, 1) + 1)].a = 1", *[step] * (MANY - 1)), "t[2].a", 799)

    def test_lets(self):
        self.check(lets(), "t[200].a", MANY)

    def test_eaches(self):
        step = "each t if (t[key].a < 1000) put a = (t[key].a + 1)"
        self.check(chain("put t[1].in = 1", "put t[1].a = count(s, 1)", *[step] * (MANY - 2)), "t[1].a", 1 + 2 * (MANY - 2))
        step = "each t if (t[key].in + t[key].in) put in = (t[key].in * t[key].in)"
        self.check(chain("put t[1].in = (count(s, 1) + 1)", *[step] * (MANY - 1)), "sum(t, 1, t[key].in)", MANY)

    def test_a_hundred_keys(self):
        log = chain(*[f"put t[{key}].in = (count(s, 1) + 1)" for key in range(100)],
                    *["each t if (t[key].in + t[key].a) put a = (t[key].a + t[key].in)"] * 100,
                    *[f"put t[{key}].b = sum(t, (t[key].a < {key * 2}), t[key].b)" for key in range(200)])
        store = self.stored(log)
        self.assertEqual(store.look(query("sum(t, 1, t[key].a)")), 10000)
        self.assertEqual(view(store, "t", "a").split("\n")[100], "      99      100")
        self.assertEqual(store.look(query("sum(t, 1, t[key].b)"), cut=100), 0)


def other_log(store):
    """The compacted log of the store."""
    return LazyStore.restart(store.compacted()).log


class SlowTest(unittest.TestCase):
    """The slow one itself, on what the document says."""

    def test_examples(self):
        slow = SlowWhole()
        slow.do(read_transaction("let x = count(s, 1)\nput t[if((x < 5), 3, 4)].a = 6"))
        self.assertEqual((slow.look(query("t[3].a"), cut=1), slow.journal), (6, [((0, "let"), 0)]))
        self.assertEqual((slow.look(query("t[3].a"), cut=0), SlowLog(slow.log).span(query("t[3].a"), 2)), (6, (0, 6)))
        self.assertEqual(slow.compacted().log, ((0, 2), ((1, ("put", "t", query("if((0 < 5), 3, 4)"), "a", ("int", 6))),)))
        self.assertEqual(slow.restarted(0).journal, [])
        self.assertEqual(slow.look(("int", L)), L)


if __name__ == "__main__":
    unittest.main()
