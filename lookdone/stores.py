"""The lazy store: what is committed is evaluated when somebody looks."""

from lookdone.books import Book, book_of, log_in
from lookdone.compacting import compacted_log
from lookdone.cuts import evaluated_at_cut
from lookdone.errors import NoSlot, NotKept, Refused
from lookdone.kinds import is_integer
from lookdone.logtexts import read_log, show_log
from lookdone.sessions import Session
from lookdone.slots import is_slot
from lookdone.trials import answered, commit_to
from lookdone.workers import shared_out
from lookdone.workings import Look, evaluated_by_one


class LazyStore:
    """A store with a log, and with the slots of it that were evaluated."""

    def __init__(self):
        self.book = Book()
        # The evaluated slots with their values, in the order in which they ended.
        self.ended = []
        self.held = {}

    @property
    def moment(self):
        """The number of transactions committed so far."""
        return len(self.book.marks) - 1

    @property
    def log(self):
        """The log."""
        return log_in(self.book)

    @property
    def journal(self):
        """The evaluated slots with their values, in the order in which they ended."""
        return tuple(self.ended)

    @property
    def kept(self):
        """The kept moments, ascending."""
        return tuple(sorted(self.held))

    def note(self, found):
        """Add these evaluated slots to the journal."""
        self.ended.extend(found)

    def go_on(self, book, found):
        """Go on with a book that goes on from the present one, and with these evaluated slots."""
        self.book = book
        self.note(found)

    def commit(self, transaction):
        """Append the transaction to the log, and tell its told values, or Refused."""
        outcome = commit_to(self.book, transaction)
        self.go_on(outcome.after, outcome.found)
        word, result = outcome.result
        if word == "refused":
            raise Refused(result)
        return result

    def run(self, *statements):
        """Commit the transaction of these statements."""
        return self.commit(statements)

    def look(self, expression, *, moment=None, cut=None):
        """The value of a closed plain expression at the present moment, or at a kept one.

        With a cut the slots at the cut and above it are not evaluated.
        """
        root = self.node_at(expression, moment)
        value, found = evaluated_by_one(Look(root)) if cut is None else evaluated_at_cut(root, cut)
        self.note(found)
        return value

    def node_at(self, expression, moment):
        """The node of an expression that stands at the position of the moment, or NotKept."""
        if moment is None:
            moment = self.moment
        if not is_integer(moment) or (moment != self.moment and moment not in self.held):
            raise NotKept(moment)
        return self.book.node_at(expression, self.book.marks[moment])

    def early(self, thing):
        """The value of the slot, which is asked now, or NoSlot."""
        if not is_slot(self.log, thing):
            raise NoSlot(thing)
        found = []
        value = answered(self.book.slot_named(thing), found)
        self.note(found)
        return value

    def keep(self):
        """Keep the present moment, and tell it."""
        self.held[self.moment] = True
        return self.moment

    def free(self, moment):
        """Keep the moment no longer, or NotKept."""
        if not is_integer(moment) or moment not in self.held:
            raise NotKept(moment)
        del self.held[moment]

    def session(self):
        """A new session, opened at the present moment."""
        return Session(self)

    def work(self, *looks, turns=()):
        """The values of the looks, (expression, moment), and who began which slots, or NotKept."""
        roots = [self.node_at(expression, moment) for expression, moment in looks]
        values, begun, found = shared_out(roots, turns)
        self.note(found)
        return (values, begun)

    def saved(self):
        """The text of the log and the kept moments."""
        return show_log(self.log, self.kept)

    def compacted(self):
        """The text of the compacted log, for the kept moments and the present one, and the kept moments."""
        return show_log(compacted_log(self.book, (*self.kept, self.moment)), self.kept)

    @classmethod
    def restart(cls, thing, journal=()):
        """A new store with the log and the kept moments of the text, and these evaluated slots, or BadText."""
        log, kept = read_log(thing)
        store = cls()
        store.book = book_of(log, journal)
        store.ended = list(journal)
        store.held = {moment: True for moment in kept}
        return store
