"""The whole store once more, on a log and a journal that are made anew by each call: points 20 to 28, 31 and 33."""

from tests.slow import SlowLog, decides, finished
from tests.slowcompacting import SlowCompacting
from tests.slowleading import slow_way


def appended(log, transaction):
    """The log with the transaction at its end."""
    marks, entries = log
    end = marks[-1] + len(transaction)
    return (*marks, end), entries + tuple(enumerate(transaction, start=marks[-1]))


class SlowWhole:

    def __init__(self, log=((0,), ()), journal=(), kept=()):
        self.log = log
        self.journal = list(journal)
        self.kept = set(kept)

    def slow(self):
        return SlowLog(self.log, self.journal)

    def position(self, moment):
        return self.log[0][-1 if moment is None else moment]

    def look(self, expression, moment=None, cut=None):
        """The value; None, and nothing is evaluated, if it gets too large on the way to the cut."""
        position = self.position(moment)
        if cut is not None:
            way = slow_way(self.log, expression, position, cut, 4000)
            if len(way) <= position - cut:
                return None
            expression, position = way[-1], cut
        value, ended = self.slow().evaluated(expression, position)
        self.journal += ended
        return value

    def ask(self, slot):
        slow = self.slow()
        value = finished(slow.ask(slot, 0))
        self.journal += slow.ended
        return value

    def do(self, transaction):
        """The told values, or the number of the need that refuses, in a list."""
        before = self.log
        start = before[0][-1]
        self.log = appended(before, transaction)
        for number, statement in enumerate(transaction):
            if statement[0] == "need":
                truth = decides(self.slow().slot_span((start + number, "need")))
                if truth is None:
                    truth = self.ask((start + number, "need")) != 0
                if not truth:
                    self.log = before
                    self.journal = [entry for entry in self.journal if entry[0][0] < start]
                    return [number]
        tells = [number for number, statement in enumerate(transaction) if statement[0] == "tell"]
        return tuple(self.ask((start + number, "tell")) for number in tells)

    def work(self, looks, turns):
        slow = self.slow()
        told = slow.worked([(query, self.position(moment)) for query, moment in looks], turns)
        self.journal += slow.ended
        return told

    def restarted(self, many):
        return SlowWhole(self.log, self.journal[:many], self.kept)

    def compacted(self):
        moments = sorted(self.kept | {len(self.log[0]) - 1})
        return SlowWhole(SlowCompacting(self.log, self.journal).compact(moments), (), self.kept)


class SlowOpened:
    """A session."""

    def __init__(self, store):
        self.store = store
        self.start = store.position(None)
        self.view = SlowWhole(store.log)
        self.own = []
        self.events = []

    def happens(self, word, thing):
        known = [entry for entry in self.store.journal if entry[0][0] < self.start] + self.own
        view = SlowWhole(self.view.log, known)
        result = getattr(view, word)(thing)
        self.view = view
        # A refused transaction takes back slots of its own only, so what was known is still there.
        new = view.journal[len(known):]
        self.store.journal += [entry for entry in new if entry[0][0] < self.start]
        self.own += [entry for entry in new if entry[0][0] >= self.start]
        self.events.append((word, thing, result))
        return result

    def close(self):
        """None, or the number of the first event with another result."""
        start = self.store.position(None)
        view = SlowWhole(self.store.log, self.store.journal)
        for number, (word, thing, result) in enumerate(self.events):
            if getattr(view, word)(thing) != result:
                self.store.journal = [entry for entry in view.journal if entry[0][0] < start]
                return number
        self.store.log, self.store.journal = view.log, view.journal
        return None
