"""Sessions: looks and transactions that are committed together, if all is told again then."""

from lookdone.errors import Closed, Conflict, Refused
from lookdone.trials import below, commit_to, look_at_end


class Session:
    """A session that is opened on a store, at its present moment."""

    def __init__(self, store):
        self.store = store
        self.opened_at = store.moment
        # The store's log up to this moment, with the session's own statements.
        self.view = store.book
        self.start = store.book.end()
        # For each event its word, the expression or the transaction, and the result.
        self.told = []
        self.is_ended = False

    @property
    def events(self):
        """How many events there were."""
        return len(self.told)

    @property
    def moment(self):
        """The moment of the store at which the session was opened."""
        return self.opened_at

    @property
    def is_closed(self):
        """Whether the session was closed."""
        return self.is_ended

    def look(self, expression):
        """The value of a closed plain expression at the end of the view."""
        return self.happens("look", expression)[1]

    def do(self, transaction):
        """Commit the transaction to the view, and tell its told values, or Refused."""
        word, result = self.happens("do", transaction)
        if word == "refused":
            raise Refused(result)
        return result

    def happens(self, word, thing):
        """The result of a new event."""
        self.check()
        outcome = outcome_of(self.view, word, thing)
        # What is evaluated in the store's part of the view counts for the store.
        self.store.note(below(outcome.found, self.start))
        self.view = outcome.after
        self.told.append((word, thing, outcome.result))
        return outcome.result

    def check(self):
        """Make sure that the session is not closed."""
        if self.is_ended:
            raise Closed()

    def close(self):
        """Commit what was done to the store, and tell its moment then, or Conflict."""
        self.check()
        self.is_ended = True
        book = self.store.book
        start = book.end()
        found = []
        for number, (word, thing, result) in enumerate(self.told):
            outcome = outcome_of(book, word, thing)
            found.extend(outcome.found)
            if outcome.result != result:
                self.store.note(below(found, start))
                raise Conflict(number)
            book = outcome.after
        self.store.go_on(book, found)
        return self.store.moment


def outcome_of(book, word, thing):
    """What comes of an event at the end of the book."""
    if word == "look":
        return look_at_end(book, thing)
    return commit_to(book, thing)
