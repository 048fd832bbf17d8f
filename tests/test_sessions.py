"""Point 27 (with 20 to 22), and lookdone/sessions.py."""

import random
import unittest

from lookdone.errors import Closed, Conflict, Refused
from lookdone.plain import PlainStore
from lookdone.sessions import Session
from lookdone.statementtexts import read_transaction
from lookdone.stores import LazyStore
from tests.randomlogs import expression, rows, transaction
from tests.slowstore import SlowSession, SlowView
from tests.texts import log_from, query


def store_of(*texts):
    store = LazyStore()
    for text in texts:
        store.commit(read_transaction(text))
    return store


class SessionTest(unittest.TestCase):

    def do(self, session, text):
        return session.do(read_transaction(text))

    def look(self, session, text):
        return session.look(query(text))

    def refused(self, session, text, number):
        with self.assertRaises(Refused) as raised:
            self.do(session, text)
        self.assertEqual(raised.exception.number, number)

    def conflict(self, session, number):
        """The session cannot be closed; the store's log stays as it is."""
        store, before = session.store, session.store.log
        with self.assertRaises(Conflict) as raised:
            session.close()
        self.assertEqual(raised.exception.number, number)
        self.assertEqual(store.log, before)
        self.closed(session)

    def closed(self, session):
        self.assertIs(session.is_closed, True)
        events = session.events
        for call in (lambda: self.look(session, "1"), lambda: self.do(session, ""), session.close):
            with self.assertRaises(Closed):
                call()
        self.assertEqual(session.events, events)


class ExamplesTest(SessionTest):

    def test_conflict(self):
        store = LazyStore()
        session = store.session()
        self.assertEqual(self.look(session, "t[1].a"), 0)
        store.commit(read_transaction("put t[1].a = 4"))
        self.conflict(session, 0)

    def test_told(self):
        store = LazyStore()
        session = store.session()
        told = self.do(session, "put t[1].a = 3\ntell t[1].a")
        store.commit(read_transaction("put t[2].a = 8"))
        found = (told, session.events, session.close(), store.look(query("t[1].a")))
        self.assertEqual(found, ((3,), 1, 2, 3))


class OpenTest(SessionTest):

    def test_both_ways(self):
        store = store_of("put t[1].a = 1", "")
        for session in (store.session(), Session(store)):
            self.assertIs(type(session), Session)
            self.assertEqual((session.events, session.moment, session.is_closed), (0, 2, False))
            self.assertEqual(self.look(session, "t[1].a"), 1)
            self.assertEqual((session.events, session.moment, session.is_closed), (1, 2, False))
            self.assertEqual((store.moment, store.kept, store.journal), (2, (), ()))

    def test_on_a_store_without_statements(self):
        store = LazyStore()
        session = Session(store)
        self.assertEqual((session.moment, self.look(session, "count(t, 1)"), self.do(session, "")), (0, 0, ()))
        self.assertEqual((store.moment, store.log), (0, ((0,), ())))

    def test_the_moment_stays_that_of_the_opening(self):
        store = store_of("put t[1].a = 1")
        session = store.session()
        self.do(session, "put t[1].a = 2")
        store.run()
        store.run()
        self.assertEqual((session.moment, store.moment), (1, 3))
        self.assertEqual((session.close(), session.moment), (4, 1))


class EventsTest(SessionTest):

    def test_numbers_and_results(self):
        store = store_of("put t[1].a = 1")
        session = store.session()
        found = [
            self.look(session, "t[1].a"), self.do(session, "tell t[1].a\nput t[1].a = 5\ntell t[1].a"),
            self.look(session, "t[1].a"),
            self.do(session, ""), self.do(session, "need t[1].a"),
            self.do(session, "let x = t[1].a\nput t[x].a = (x + x)"),
            self.look(session, "sum(t, 1, 1)"), self.look(session, "t[5].a"),
        ]
        self.assertEqual(found, [1, (1, 5), 5, (), (), (), 0, 10])
        self.assertEqual((session.events, store.moment), (8, 1))
        self.assertEqual(session.close(), 5)
        self.assertEqual(store.log, log_from(
            "put t[1].a = 1", "tell t[1].a\nput t[1].a = 5\ntell t[1].a", "", "need t[1].a",
            "let x = t[1].a\nput t[x].a = (x + x)",
        ))

    def test_refused(self):
        store = store_of("put t[1].a = 1")
        session = store.session()
        self.refused(session, "put t[1].a = 3\nneed 1\nneed (t[1].a < 3)\nneed 0", 2)
        self.assertEqual(self.look(session, "t[1].a"), 1)
        self.refused(session, "need (count(t, 1) < 0)", 0)
        self.refused(session, "let x = count(t, 1)\nput t[1].a = x\nneed x", 2)
        self.assertEqual(self.look(session, "t[1].a"), 1)
        self.assertEqual(self.do(session, "put t[1].a = 2\nneed (t[1].a = 2)\ntell t[1].a"), (2,))
        self.assertEqual((session.events, store.journal), (6, ()))
        self.assertEqual(session.close(), 2)
        self.assertEqual(store.log, log_from("put t[1].a = 1", "put t[1].a = 2\nneed (t[1].a = 2)\ntell t[1].a"))

    def test_a_refused_one_is_an_event_with_its_number(self):
        for change, is_same in (
            ("put t[9].a = 1", True), ("put t[1].a = 1", False), ("put t[2].a = 1", True),
            ("put t[1].a = 1\nput t[2].a = 1", False),
            ("put t[1].a = 0", True),
        ):
            store = LazyStore()
            session = store.session()
            self.refused(session, "need t[1].a\nneed t[2].a", 0)
            store.commit(read_transaction(change))
            if is_same:
                # The need at 0 still refuses it, whatever the other one would do.
                self.assertEqual(session.close(), 1)
                self.assertEqual(store.log, log_from(change))
            else:
                self.conflict(session, 0)

    def test_nothing_is_evaluated_that_no_event_needs(self):
        store = store_of("let x = count(s, 1)\nput t[x].a = x")
        session = store.session()
        self.do(session, "let y = (count(s, 1) + 1)\nput t[y].b = y\nneed (y + 1)")
        self.assertEqual(session.close(), 2)
        self.assertEqual(store.journal, ())


class ViewTest(SessionTest):

    def test_what_the_store_does_meanwhile_is_not_seen(self):
        store = store_of("put t[1].a = 1\nput t[1].in = 1")
        session = store.session()
        store.commit(read_transaction("put t[1].a = 2\nput t[2].in = 1"))
        self.assertEqual((self.look(session, "t[1].a"), self.look(session, "count(t, 1)")), (1, 1))
        self.assertEqual(self.do(session, "put t[3].in = 1\ntell count(t, 1)"), (2,))
        store.commit(read_transaction("put t[4].in = 1"))
        self.assertEqual(self.look(session, "sum(t, 1, key)"), 4)
        self.assertEqual(store.look(query("sum(t, 1, key)")), 7)
        self.conflict(session, 0)

    def test_what_the_session_does_is_not_seen(self):
        store = store_of("put t[1].a = 1")
        session, other = store.session(), store.session()
        self.do(session, "put t[1].a = 2")
        self.do(other, "put t[1].a = 3")
        third = store.session()
        found = [store.look(query("t[1].a"))] + [self.look(one, "t[1].a") for one in (session, other, third)]
        self.assertEqual(found, [1, 2, 3, 1])
        self.assertEqual((store.moment, store.log), (1, log_from("put t[1].a = 1")))
        self.assertEqual(session.close(), 2)
        self.assertEqual((store.look(query("t[1].a")), self.look(other, "t[1].a"), self.look(third, "t[1].a")),
                         (2, 3, 1))

    def test_the_moment_of_a_session_need_not_be_kept(self):
        store = LazyStore()
        sessions = []
        for number in range(20):
            sessions.append(store.session())
            store.commit(read_transaction(f"put t[1].a = {number + 1}"))
        self.assertEqual([self.look(session, "t[1].a") for session in sessions], list(range(20)))
        self.assertEqual(store.kept, ())


class CloseTest(SessionTest):

    def test_without_events(self):
        store = store_of("put t[1].a = 1")
        session = store.session()
        self.assertEqual(session.close(), 1)
        self.closed(session)
        session = store.session()
        store.run()
        self.assertEqual((session.close(), store.moment, store.log), (2, 2, ((0, 1, 1), store.log[1])))
        self.closed(session)

    def test_looks_alone_append_nothing(self):
        store = store_of("put t[1].a = 1")
        session = store.session()
        self.look(session, "t[1].a")
        store.commit(read_transaction("put t[2].a = 2"))
        self.assertEqual((session.close(), store.log), (2, log_from("put t[1].a = 1", "put t[2].a = 2")))

    def test_empty_transactions_are_moments(self):
        store = LazyStore()
        session = store.session()
        self.assertEqual([self.do(session, "") for _ in range(3)], [(), (), ()])
        self.assertEqual((session.close(), store.moment, store.log), (3, 3, ((0, 0, 0, 0), ())))

    def test_one_moment_for_each_accepted_transaction(self):
        store = store_of("put t[1].a = 1")
        session = store.session()
        self.do(session, "put t[1].a = (t[1].a + 1)")
        self.refused(session, "need 0", 0)
        self.do(session, "put t[1].a = (t[1].a * 10)\nput t[2].a = 1")
        store.commit(read_transaction("put t[1].a = 5"))
        self.assertEqual(session.close(), 4)
        self.assertEqual(store.log[0], (0, 1, 2, 3, 5))
        self.assertEqual(store.look(query("t[1].a")), 60)
        self.closed(session)

    def test_the_first_event_that_has_another_result(self):
        for change, number in (
            ("put t[5].a = 5", None), ("put t[1].a = 5", 1), ("put t[2].a = 5", 2), ("put t[3].a = 5", 3),
            ("put t[4].a = 5", 4),
            ("put t[4].a = 5\nput t[3].a = 5", 3), ("put t[2].a = 5\nput t[1].a = 5", 1), ("put t[1].a = 0", None),
        ):
            with self.subTest(change=change):
                store = LazyStore()
                session = store.session()
                self.do(session, "put t[6].a = 1")
                self.look(session, "t[1].a")
                self.do(session, "tell 7\ntell t[2].a")
                self.refused(session, "need t[3].a", 0)
                self.do(session, "need (t[4].a = 0)")
                store.commit(read_transaction(change))
                if number is None:
                    self.assertEqual(session.close(), 4)
                    self.closed(session)
                else:
                    self.conflict(session, number)

    def test_another_number_of_a_refusal_is_another_result(self):
        store = LazyStore()
        session = store.session()
        self.refused(session, "need 1\nneed t[1].a\nneed t[2].a", 1)
        store.commit(read_transaction("put t[1].a = 1"))
        self.conflict(session, 0)
        session = store.session()
        self.refused(session, "need t[1].a\nneed t[2].a", 1)
        store.commit(read_transaction("put t[1].a = 0"))
        self.conflict(session, 0)

    def test_later_events_are_not_repeated(self):
        store = store_of("let x = count(s, 1)\nput t[1].a = x", "let x = count(s, 1)\nput t[2].a = x")
        session = store.session()
        self.look(session, "t[3].a")
        store.commit(read_transaction("put t[3].a = 1\nlet x = count(s, 1)\nput t[2].b = x"))
        self.look(session, "t[2].b")
        self.conflict(session, 0)
        self.assertEqual(store.journal, ())

    def test_the_same_answers_from_another_state(self):
        """What counts is what was told, not what it was told from."""
        store = store_of("put t[1].a = 2\nput t[2].a = 3")
        session = store.session()
        self.assertEqual(self.look(session, "(t[1].a + t[2].a)"), 5)
        self.do(session, "put t[3].a = (t[1].a * 10)")
        store.commit(read_transaction("put t[1].a = 3\nput t[2].a = 2"))
        self.assertEqual(session.close(), 3)
        self.assertEqual(store.look(query("t[3].a")), 30)

    def test_never_closed(self):
        store = store_of("let x = count(s, 1)\nput t[1].a = x")
        session = store.session()
        self.do(session, "put t[1].a = (t[1].a + 1)\ntell t[1].a")
        self.look(session, "t[1].a")
        self.assertEqual(store.log, log_from("let x = count(s, 1)\nput t[1].a = x"))
        self.assertEqual((store.moment, store.kept), (1, ()))
        self.assertEqual(store.journal, (((0, "let"), 0), ((1, "value"), 0)))
        self.assertIs(session.is_closed, False)


class SlotsTest(SessionTest):

    LINES = "let x = count(s, 1)\nput t[1].a = x\nput t[2].a = (x + 1)"

    def test_slots_of_the_store_count_for_it(self):
        store = store_of(self.LINES)
        session = store.session()
        self.assertEqual(self.look(session, "t[1].a"), 0)
        self.assertEqual(store.journal, (((0, "let"), 0), ((1, "value"), 0)))
        self.assertEqual(store.look(query("(t[1].a + t[2].a)")), 1)
        self.assertEqual(store.journal[2:], (((2, "value"), 1),))
        self.assertEqual(self.look(session, "(t[1].a + t[2].a)"), 1)
        self.assertEqual(len(store.journal), 3)

    def test_slots_of_own_statements_do_not(self):
        store = store_of(self.LINES)
        session = store.session()
        self.do(session, "put t[1].a = (t[2].a + t[1].a)\nlet y = (t[1].a + 1)\nput t[3].a = y")
        self.assertEqual(self.look(session, "t[3].a"), 2)
        journal = (((0, "let"), 0), ((2, "value"), 1), ((1, "value"), 0))
        self.assertEqual(store.journal, journal)
        # The store's own statements stand at the same positions.
        store.commit(read_transaction("let y = count(s, 1)\nput t[7].a = y\nput t[3].a = (y + 5)"))
        self.assertEqual(self.look(session, "t[3].a"), 2)
        self.assertEqual(store.look(query("t[3].a")), 5)
        journal += (((3, "let"), 0), ((5, "value"), 5))
        self.assertEqual(store.journal, journal)
        self.assertEqual(self.look(session, "(t[3].a + t[7].a)"), 2)
        self.assertEqual(store.journal, journal)

    def test_new_slots_when_it_is_closed(self):
        store = store_of(self.LINES)
        session = store.session()
        self.do(session, "let y = (t[1].a + 1)\nput t[3].a = y")
        self.assertEqual(self.look(session, "t[3].a"), 1)
        self.do(session, "tell (t[3].a + 1)")
        journal = (((0, "let"), 0), ((1, "value"), 0))
        self.assertEqual(store.journal, journal)
        store.commit(read_transaction("let z = count(s, 1)\nput t[4].a = z"))
        self.assertEqual(session.close(), 4)
        # They stand behind the store's own statements, in the order in which they ended.
        journal += (((5, "let"), 1), ((6, "value"), 1), ((7, "tell"), 2))
        self.assertEqual(store.journal, journal)
        self.assertEqual(store.look(query("t[3].a")), 1)
        self.assertEqual(store.journal, journal)
        self.assertEqual(store.look(query("t[4].a")), 0)
        self.assertEqual(store.journal, journal + (((3, "let"), 0), ((4, "value"), 0)))

    def test_slots_of_the_store_that_are_evaluated_while_it_is_closed(self):
        store = store_of(self.LINES)
        session = store.session()
        self.do(session, "put t[3].a = count(s, 1)")
        self.assertEqual(self.look(session, "(t[3].a + t[4].a)"), 0)
        self.assertEqual(store.journal, ())
        store.commit(read_transaction("let z = count(s, 1)\nput t[4].a = z"))
        self.assertEqual(session.close(), 3)
        self.assertEqual(store.journal, (((5, "value"), 0), ((3, "let"), 0), ((4, "value"), 0)))

    def test_conflict_drops_the_new_slots_alone(self):
        store = store_of(self.LINES)
        session = store.session()
        self.do(session, "put t[3].a = count(s, 1)")
        self.assertEqual(self.look(session, "(t[3].a + t[4].a)"), 0)
        store.commit(read_transaction("let z = count(s, 1)\nput t[4].a = (z + 1)"))
        self.conflict(session, 1)
        self.assertEqual(store.journal, (((3, "let"), 0), ((4, "value"), 1)))
        # Their positions are taken by what comes next.
        store.commit(read_transaction("put t[3].a = (count(s, 1) + 7)"))
        self.assertEqual(store.look(query("t[3].a")), 7)
        self.assertEqual(store.journal[2:], (((5, "value"), 7),))

    def test_refused_ones_take_their_slots_back(self):
        store = store_of(self.LINES)
        session = store.session()
        self.refused(session, "let y = (t[1].a + count(s, 1))\nneed y", 1)
        journal = (((0, "let"), 0), ((1, "value"), 0))
        self.assertEqual(store.journal, journal)
        self.do(session, "let y = (t[1].a + (count(s, 1) + 4))\nneed (y < 9)\ntell y")
        self.assertEqual(store.journal, journal)
        self.assertEqual(session.close(), 2)
        self.assertEqual(store.journal, journal + (((3, "let"), 4), ((4, "need"), 1), ((5, "tell"), 4)))

    def test_early_requests_and_looks_of_the_store_are_shared(self):
        store = store_of(self.LINES)
        session = store.session()
        store.early((0, "let"))
        self.assertEqual(self.look(session, "t[2].a"), 1)
        self.assertEqual(store.journal, (((0, "let"), 0), ((2, "value"), 1)))


class RandomTest(SessionTest):

    def test_held_against_the_slow_ones(self):
        """A store with sessions, against one that is made anew for each call, and against the plain store."""
        seen = {}
        for seed in range(800):
            self.go_through(random.Random(seed), seen)
        for outcome, least in (("closed", 100), ("conflict", 40), ("refused", 30)):
            self.assertGreater(seen[outcome], least)

    def go_through(self, draw, seen):
        stores = LazyStore(), SlowView(), PlainStore()
        for store, word in zip(stores, ("commit", "do", "commit")):
            getattr(store, word)(rows(random.Random(repr(draw.getstate()))))
        sessions = [(Session(stores[0]), SlowSession(stores[1]))]
        for _ in range(draw.randrange(4, 14)):
            word = draw.choice(("open", "event", "event", "event", "commit", "look", "close"))
            if word == "open":
                sessions.append((stores[0].session(), SlowSession(stores[1])))
            elif word == "commit":
                self.commit(stores, transaction(draw, draw.randrange(5)))
            elif word == "look":
                look = expression(draw, 4)
                self.assertEqual({store.look(look) for store in stores[:2]}, {stores[2].value(look)})
            elif word == "event" and sessions:
                self.event(draw, *draw.choice(sessions), seen)
            elif sessions:
                self.close(stores, *sessions.pop(draw.randrange(len(sessions))), seen)
            self.assertEqual(stores[0].journal, tuple(stores[1].journal))
            self.assertEqual(stores[0].log, stores[1].log())
            self.assertEqual(stores[0].moment, stores[2].moment)
        for pair in sessions:
            self.close(stores, *pair, seen)

    def commit(self, stores, one):
        found = [outcome(store.commit, one) for store in (stores[0], stores[2])]
        self.assertEqual(found, [stores[1].do(one)] * 2)

    def event(self, draw, session, slow, seen):
        if draw.random() < 0.5:
            look = draw.choice((expression(draw, 4), query("count(t, 1)"), query("sum(s, 1, (key + t[key].a))")))
            self.assertEqual(session.look(look), slow.happens("look", look))
        else:
            one = transaction(draw, draw.randrange(5))
            found = outcome(session.do, one)
            seen["refused"] = seen.get("refused", 0) + isinstance(found, list)
            self.assertEqual(found, slow.happens("do", one))
        self.assertEqual(session.events, len(slow.events))

    def close(self, stores, session, slow, seen):
        number = slow.close()
        if number is not None:
            seen["conflict"] = seen.get("conflict", 0) + 1
            self.conflict(session, number)
            return
        seen["closed"] = seen.get("closed", 0) + 1
        self.assertEqual(session.close(), stores[0].moment)
        self.closed(session)
        # All of it is as if it had been done at the end of the log.
        for word, thing, result in slow.events:
            if word == "look":
                self.assertEqual(stores[2].value(thing), result)
            else:
                self.assertEqual(outcome(stores[2].commit, thing), result)


def outcome(call, one):
    """The told values, or the number of the need that refuses, in a list."""
    try:
        return call(one)
    except Refused as refused:
        return [refused.number]


if __name__ == "__main__":
    unittest.main()
