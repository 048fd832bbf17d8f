"""What happens at the end of a book: looks and commits, each with its outcome.

The book itself stays as it is, whatever comes of it, but for the slots that are
evaluated in it.
"""

from lookdone.books import grown
from lookdone.nodespans import NO, decides_yes, span_at
from lookdone.workings import Look, Request, evaluated_by_one


class Outcome:
    """What came of it.

    after is the book as it is then, result ("value", v), ("told", values) or
    ("refused", number), and found are the slots that were evaluated and are there
    afterwards, with their values.
    """

    def __init__(self, after, result, found):
        self.after = after
        self.result = result
        self.found = found


def look_at_end(book, expression):
    """The outcome of a look at the end of the book."""
    value, found = evaluated_by_one(Look(book.node_at(expression, book.end())))
    return Outcome(book, ("value", value), found)


def commit_to(book, transaction):
    """The outcome of committing the transaction to the book."""
    start = book.end()
    entries = list(enumerate(transaction, start=start))
    after = grown(book, entries, start + len(entries))
    found = []
    for position, statement in entries:
        if statement[0] == "need" and not holds(after.slot_named((position, "need")), found):
            return Outcome(book, ("refused", position - start), below(found, start))
    tells = [(position, "tell") for position, statement in entries if statement[0] == "tell"]
    told = [answered(after.slot_named(name), found) for name in tells]
    return Outcome(after, ("told", tuple(told)), found)


def holds(slot, found):
    """Whether the value of a need's slot is not 0; the slot is asked if its span does not tell."""
    span = span_at(slot.root, slot.key)
    if decides_yes(span):
        return True
    return span != NO and answered(slot, found) != 0


def answered(slot, found):
    """The value of the slot, which is asked; what is evaluated is added to what was found."""
    value, ended = evaluated_by_one(Request(slot))
    found.extend(ended)
    return value


def below(found, start):
    """Those of the evaluated slots that stand below the position."""
    return [entry for entry in found if entry[0][0] < start]
