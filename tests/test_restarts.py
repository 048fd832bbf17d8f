"""Point 33: saved and compacted stores, and restarts from their texts."""

import random
import unittest

from lookdone.compacting import compact
from lookdone.errors import BadText, NotKept, Refused
from lookdone.evaluation import value_of
from lookdone.logs import is_log
from lookdone.logtexts import read_log, show_log
from lookdone.plain import PlainStore
from lookdone.statementtexts import read_transaction
from lookdone.stores import LazyStore
from tests.randomlogs import expression, rows, transaction
from tests.samples import OTHER_THINGS
from tests.slowwhole import SlowWhole
from tests.texts import asked_twice, chain, query


def made(*texts, keep=()):
    """A store with these transactions; the moments are kept as they come by."""
    store = LazyStore()
    for number, text in enumerate(texts):
        if number in keep:
            store.keep()
        store.commit(read_transaction(text))
    return store


HANGING = (
    "put s[1].in = 1\nlet x = count(s, 1)\nput t[x].a = (x + x)",
    "let y = t[1].a\neach s if (key < y) put a = (key + y)",
    "put t[2].a = s[1].a",
)


class SavedTest(unittest.TestCase):

    def test_texts(self):
        self.assertEqual(LazyStore().saved(), "marks 0\nkept")
        store = made("put t[1].a = 2", "", "tell 1", keep=(1, 2))
        self.assertEqual(store.saved(), "marks 0 1 1 2\nkept 1 2\n0 put t[1].a = 2\n1 tell 1")
        store.keep()
        self.assertEqual(asked_twice(self, store.saved), "marks 0 1 1 2\nkept 1 2 3\n0 put t[1].a = 2\n1 tell 1")
        self.assertEqual(store.saved(), show_log(store.log, store.kept))
        self.assertEqual(read_log(store.saved()), (store.log, store.kept))

    def test_nothing_is_evaluated(self):
        store = made(*HANGING)
        for text in (store.saved(), store.compacted(), store.saved()):
            self.assertIsInstance(text, str)
        self.assertEqual(store.journal, ())
        self.assertEqual(store.log, made(*HANGING).log)

    def test_what_was_evaluated_is_not_in_the_text(self):
        store = made(*HANGING)
        text = store.saved()
        store.look(query("t[2].a"))
        self.assertEqual(store.saved(), text)


class RestartTest(unittest.TestCase):

    def test_example(self):
        store = made(HANGING[0])
        store.look(query("t[1].a"))
        self.assertEqual(LazyStore.restart(store.saved(), store.journal[:1]).journal, (((1, "let"), 1),))

    def test_each_beginning_of_the_journal(self):
        store = made(*HANGING, keep=(0, 2))
        look = query("(t[2].a + t[1].a)")
        value = store.look(look)
        journal = store.journal
        self.assertEqual(len(journal), 7)
        for many in range(len(journal) + 1):
            for other in (LazyStore.restart(store.saved(), journal[:many]),
                          LazyStore.restart(store.saved(), journal=journal[:many])):
                self.assertIsInstance(other, LazyStore)
                self.assertEqual((other.journal, other.log, other.kept, other.moment),
                                 (journal[:many], store.log, (0, 2), 3))
                # Just what is not known is evaluated.
                self.assertEqual(other.look(look), value)
                self.assertEqual(other.journal, journal)
        self.assertEqual(store.journal, journal)

    def test_without_a_journal(self):
        store = made(*HANGING)
        store.look(query("t[2].a"))
        other = LazyStore.restart(store.saved())
        self.assertEqual((other.journal, other.log), ((), store.log))
        other.look(query("t[1].a"))
        self.assertEqual(other.journal, store.journal[:3])

    def test_a_restart_of_a_restart(self):
        store = made(*HANGING)
        store.look(query("t[2].a"))
        other = LazyStore.restart(store.saved(), store.journal[:4])
        other.look(query("s[1].a"))
        self.assertEqual(other.journal, store.journal[:6])
        again = LazyStore.restart(other.saved(), other.journal[:5])
        self.assertEqual(again.journal, store.journal[:5])
        again.look(query("t[2].a"))
        self.assertEqual(again.journal, store.journal)
        self.assertEqual(again.saved(), store.saved())

    def test_the_new_store_is_another_one(self):
        store = made(*HANGING)
        session = store.session()
        session.look(query("t[1].a"))
        other = LazyStore.restart(store.saved(), store.journal)
        other.run()
        other.keep()
        self.assertEqual((store.moment, other.moment, store.kept, other.kept), (3, 4, (), (4,)))
        session.do(())
        self.assertEqual((session.close(), store.moment, other.moment), (4, 4, 4))
        self.assertEqual(len(other.journal), 3)

    def test_kept_moments(self):
        store = made("put t[1].a = 1", "put t[1].a = 2", "put t[1].a = 3", keep=(0, 2))
        other = LazyStore.restart(store.saved())
        self.assertEqual([other.look(query("t[1].a"), moment=moment) for moment in (0, 2, 3, None)], [0, 2, 3, 3])
        with self.assertRaises(NotKept):
            other.look(query("t[1].a"), moment=1)
        other.free(0)
        self.assertEqual((other.kept, store.kept), ((2,), (0, 2)))

    def test_it_goes_on(self):
        store = LazyStore.restart("marks 0 5 9\nkept\n3 put t[1].a = (count(s, 1) + 1)")
        self.assertEqual(store.commit(read_transaction("let x = t[1].a\ntell (x + 1)")), (2,))
        self.assertEqual(store.log[0], (0, 5, 9, 11))
        self.assertEqual(store.journal, (((3, "value"), 1), ((9, "let"), 1), ((10, "tell"), 2)))
        session = store.session()
        self.assertEqual((session.look(query("t[1].a")), session.close()), (1, 3))

    def test_needs_are_not_asked_again(self):
        store = LazyStore.restart("marks 0 2\nkept 0 1\n0 need 0\n1 put t[1].a = 4")
        self.assertEqual((store.moment, store.look(query("t[1].a")), store.journal), (1, 4, ()))
        self.assertEqual(store.early((0, "need")), 0)

    def test_bad_texts(self):
        for thing in OTHER_THINGS:
            with self.assertRaises(BadText) as raised:
                LazyStore.restart(thing)
            self.assertEqual(raised.exception.line, 0)
        text = made(*HANGING).saved()
        for number, line in enumerate(text.split("\n")):
            lines = text.split("\n")
            lines[number] = line + " "
            with self.assertRaises(BadText) as raised:
                LazyStore.restart("\n".join(lines), ())
            self.assertEqual(raised.exception.line, number)
        with self.assertRaises(BadText) as raised:
            LazyStore.restart(text + "\n")
        self.assertEqual(raised.exception.line, 8)
        with self.assertRaises(BadText) as raised:
            LazyStore.restart("marks 0", journal=())
        self.assertEqual(raised.exception.line, 1)


class CompactedTest(unittest.TestCase):

    def test_texts(self):
        store = made("put t[1].a = 2", "put t[1].a = 3\ntell 1\nneed 1")
        self.assertEqual(store.compacted(), "marks 0 1 4\nkept\n1 put t[1].a = 3")
        store = made("put t[1].a = 2", "put t[1].a = 3", keep=(0, 1))
        self.assertEqual(store.compacted(), "marks 0 1 2\nkept 0 1\n0 put t[1].a = 2\n1 put t[1].a = 3")
        self.assertEqual(LazyStore().compacted(), "marks 0\nkept")
        self.assertEqual(made("tell 1", keep=(0,)).compacted(), "marks 0 1\nkept 0")

    def test_the_journal_counts(self):
        store = made("let x = count(s, 1)\nput t[x].a = (x + 1)", "let x = t[0].a\nput t[x].a = 5")
        self.assertEqual(store.compacted(), store.saved())
        store.look(query("t[0].a"))
        self.assertEqual(store.compacted(), "marks 0 2 4\nkept\n1 put t[0].a = 1\n3 put t[1].a = 5")
        self.assertEqual(read_log(store.compacted()), (compact(store.log, (2,), entries=tuple(sorted(store.journal))), ()))

    def test_values_stay(self):
        store = made(*HANGING, keep=(1, 2))
        looks = [(query(text), moment) for text in ("t[1].a", "t[2].a", "s[1].a", "count(s, 1)") for moment in (1, 2, None)]
        wanted = [made(*HANGING, keep=(1, 2)).look(look, moment=moment) for look, moment in looks]
        for many in range(len(looks) + 1):
            store = made(*HANGING, keep=(1, 2))
            for look, moment in looks[:many]:
                store.look(look, moment=moment)
            other = LazyStore.restart(store.compacted(), ())
            self.assertEqual((other.kept, other.moment, other.journal), ((1, 2), 3, ()))
            self.assertEqual([other.look(look, moment=moment) for look, moment in looks], wanted)
            known = {slot for slot, _ in store.journal}
            self.assertFalse(known & {slot for slot, _ in other.journal})
            again = LazyStore.restart(other.compacted())
            self.assertEqual([again.look(look, moment=moment) for look, moment in looks], wanted)
            self.assertEqual(again.journal, ())

    def test_further_commits(self):
        store = made(*HANGING)
        store.look(query("t[2].a"))
        other = LazyStore.restart(store.compacted())
        text = "let z = (t[2].a + s[1].a)\nput t[2].a = (z + 1)\ntell t[2].a\nneed (z < 100)"
        self.assertEqual(other.commit(read_transaction(text)), store.commit(read_transaction(text)))
        self.assertEqual((other.log[0], other.moment), (store.log[0], 4))
        other = LazyStore.restart(other.compacted())
        self.assertEqual(other.look(query("t[2].a")), store.look(query("t[2].a")))
        for one in (store, other):
            with self.assertRaises(Refused) as raised:
                one.commit(read_transaction("tell 1\nneed (t[2].a = 0)"))
            self.assertEqual(raised.exception.number, 1)

    def test_a_chain(self):
        log = chain("put t[1].a = count(s, 1)", *["put t[1].a = (t[1].a + 1)"] * 399)
        store = LazyStore.restart(show_log(log, (5,)))
        self.assertEqual(store.look(query("t[1].a")), 399)
        # All keys are known, so a kept moment and the present one see a put each.
        self.assertEqual(store.compacted(),
                         f"marks {' '.join(str(mark) for mark in log[0])}\nkept 5\n199 put t[1].a = 199\n399 put t[1].a = 399")
        text = LazyStore.restart(store.saved()).compacted()
        self.assertEqual(text, store.saved())


class RandomTest(unittest.TestCase):

    def test_held_against_the_slow_one_and_the_plain_store(self):
        restarts = compactions = 0
        for seed in range(400):
            draw = random.Random(seed)
            lazy, slow, plain = LazyStore(), SlowWhole(), PlainStore()
            first = rows(draw)
            self.assertEqual((lazy.commit(first), slow.do(first), plain.commit(first)), ((), (), ()))
            for _ in range(draw.randrange(6, 14)):
                word = draw.choice(("commit", "commit", "look", "look", "keep", "restart", "compact"))
                if word == "restart":
                    many = draw.randint(0, len(lazy.journal))
                    lazy, slow = LazyStore.restart(lazy.saved(), lazy.journal[:many]), slow.restarted(many)
                    restarts += 1
                elif word == "compact":
                    lazy, slow = LazyStore.restart(lazy.compacted()), slow.compacted()
                    compactions += len(lazy.log[1])
                else:
                    self.step(draw, word, lazy, slow, plain)
                self.assertEqual((lazy.log, lazy.journal, lazy.kept),
                                 (slow.log, tuple(slow.journal), tuple(sorted(slow.kept))))
                self.assertIs(is_log(lazy.log), True)
                self.assertEqual(lazy.moment, plain.moment)
        self.assertGreater(restarts, 400)
        self.assertGreater(compactions, 1000)

    def step(self, draw, word, lazy, slow, plain):
        if word == "commit":
            one = transaction(draw, draw.randrange(5))
            wanted = slow.do(one)
            for store in (lazy, plain):
                try:
                    self.assertEqual(store.commit(one), wanted)
                except Refused as refused:
                    self.assertEqual([refused.number], wanted)
        elif word == "keep":
            slow.kept.add(lazy.keep())
        else:
            look, moment = expression(draw, 4), draw.choice((None, lazy.moment) + lazy.kept)
            value = plain.value(look, moment=moment)
            self.assertEqual((lazy.look(look, moment=moment), slow.look(look, moment)), (value, value))
            self.assertEqual(value_of(lazy.log, look, slow.position(moment)), value)


if __name__ == "__main__":
    unittest.main()
