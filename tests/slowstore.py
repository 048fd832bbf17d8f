"""Points 20 to 23, 27 and 28 once more, on logs that are made anew for each call."""

from lookdone.logs import log_of
from tests.slow import SlowLog, decides, finished


class SlowView:
    """Transactions in a row, with the slots that were evaluated in them, in order."""

    def __init__(self, transactions=(), journal=()):
        self.transactions = list(transactions)
        self.journal = list(journal)

    def log(self):
        return log_of(*self.transactions)

    def end(self):
        return self.log()[0][-1]

    def look(self, expression, moment=None):
        log = self.log()
        position = log[0][-1 if moment is None else moment]
        value, ended = SlowLog(log, self.journal).evaluated(expression, position)
        self.journal += ended
        return value

    def ask(self, slot):
        slow = SlowLog(self.log(), self.journal)
        value = finished(slow.ask(slot, 0))
        self.journal += slow.ended
        return value

    def do(self, transaction):
        """The told values, or the number of the need that refuses, in a list."""
        start = self.end()
        self.transactions.append(transaction)
        for number, statement in enumerate(transaction):
            if statement[0] == "need":
                slot = (start + number, "need")
                truth = decides(SlowLog(self.log()).slot_span(slot))
                if truth is None:
                    truth = self.ask(slot) != 0
                if not truth:
                    self.transactions.pop()
                    self.journal = [entry for entry in self.journal if entry[0][0] < start]
                    return [number]
        tells = [number for number, statement in enumerate(transaction) if statement[0] == "tell"]
        return tuple(self.ask((start + number, "tell")) for number in tells)

    def work(self, looks, turns):
        log = self.log()
        slow = SlowLog(log, self.journal)
        present = len(log[0]) - 1
        placed = [(query, log[0][present if moment is None else moment]) for query, moment in looks]
        told = slow.worked(placed, turns)
        self.journal += slow.ended
        return told


class SlowSession:

    def __init__(self, store):
        self.store = store
        self.start = store.end()
        self.opened = list(store.transactions)
        self.own = []
        self.own_journal = []
        self.events = []

    def happens(self, word, thing):
        known = [entry for entry in self.store.journal if entry[0][0] < self.start] + self.own_journal
        view = SlowView(self.opened + self.own, known)
        result = getattr(view, word)(thing)
        new = view.journal[len(known):]
        self.store.journal += [entry for entry in new if entry[0][0] < self.start]
        self.own_journal += [entry for entry in new if entry[0][0] >= self.start]
        self.own = view.transactions[len(self.opened):]
        self.events.append((word, thing, result))
        return result

    def close(self):
        """None, or the number of the first event with another result."""
        start = self.store.end()
        view = SlowView(self.store.transactions, self.store.journal)
        for number, (word, thing, result) in enumerate(self.events):
            if getattr(view, word)(thing) != result:
                self.store.journal = [entry for entry in view.journal if entry[0][0] < start]
                return number
        self.store.transactions = view.transactions
        self.store.journal = view.journal
        return None
