"""The console: a store that is told rows, and answers each by a text."""

from lookdone.errors import BadRow, NoSession
from lookdone.evaluation import needed
from lookdone.leading import cut_look
from lookdone.rows import row_in
from lookdone.slotspans import span_of
from lookdone.stores import LazyStore


def told_text(told):
    """The answer to a transaction that was accepted, with the told values."""
    return " ".join(["ok", *[str(value) for value in told]])


def end_of(console):
    """The position of the present moment."""
    return console.store.log[0][-1]


def session_of(console, number):
    """The session with this number, or NoSession."""
    if number >= len(console.sessions):
        raise NoSession(number)
    return console.sessions[number]


def replace_store(console, store):
    """Go on with this store, without any session."""
    console.store = store
    console.sessions = []


def answer_do(console, transaction):
    """Commit the transaction."""
    return told_text(console.store.commit(transaction))


def answer_look(console, moment, expression):
    """Look at the moment, or at the present one."""
    return str(console.store.look(expression, moment=moment))


def answer_cut(console, position, expression):
    """Look with a cut at the position."""
    if position > end_of(console):
        raise BadRow()
    _, slots = cut_look(console.store.log, expression, end_of(console), position)
    value = console.store.look(expression, cut=position)
    return f"{value} {len(slots)}"


def answer_needs(console, expression):
    """Tell the slots that the expression needs."""
    slots = needed(console.store.log, expression, end_of(console))
    shown = [" ".join([str(part) for part in slot]) for slot in slots]
    return ", ".join(shown) if shown else "none"


def answer_span(console, expression):
    """Tell the span of the expression."""
    low, high = span_of(console.store.log, expression, end_of(console))
    return f"{low} {high}"


def answer_evaluated(console):
    """Tell how many slots were evaluated."""
    return str(len(console.store.journal))


def answer_moment(console):
    """Tell the present moment."""
    return str(console.store.moment)


def answer_early(console, slot):
    """Ask the slot now."""
    return str(console.store.early(slot))


def answer_keep(console):
    """Keep the present moment."""
    return str(console.store.keep())


def answer_free(console, moment):
    """Keep the moment no longer."""
    console.store.free(moment)
    return "ok"


def answer_opening(console):
    """Begin a session."""
    console.sessions.append(console.store.session())
    return str(len(console.sessions) - 1)


def answer_inner(console, number, word, thing):
    """Look, or commit a transaction, in a session."""
    session = session_of(console, number)
    if word == "look":
        return str(session.look(thing))
    return told_text(session.do(thing))


def answer_close(console, number):
    """Close a session."""
    return str(session_of(console, number).close())


def answer_restart(console, many):
    """Restart the store with so many entries of its journal."""
    store = console.store
    if many > len(store.journal):
        raise BadRow()
    replace_store(console, LazyStore.restart(store.saved(), store.journal[:many]))
    return "ok"


def answer_compact(console):
    """Restart the store with its compacted log."""
    replace_store(console, LazyStore.restart(console.store.compacted()))
    return str(len(console.store.log[1]))


ANSWERS = {
    "do": answer_do,
    "look": answer_look,
    "cut": answer_cut,
    "needs": answer_needs,
    "span": answer_span,
    "evaluated": answer_evaluated,
    "moment": answer_moment,
    "early": answer_early,
    "keep": answer_keep,
    "free": answer_free,
    "open": answer_opening,
    "in": answer_inner,
    "close": answer_close,
    "restart": answer_restart,
    "compact": answer_compact,
}


class Console:
    """A store, its sessions by their numbers, and the rows that it is told."""

    WORDS = (
        "do", "look", "cut", "needs", "span", "evaluated", "moment", "early",
        "keep", "free", "open", "in", "close", "restart", "compact",
    )

    def __init__(self):
        self.store = LazyStore()
        self.sessions = []

    def say(self, thing):
        """The answer to the thing, any value of Python; BadRow if it is no row."""
        word, *parts = row_in(thing)
        action = ANSWERS[word]
        return action(self, *parts)
