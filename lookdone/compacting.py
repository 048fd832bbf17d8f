"""Logs without what no look at some of their moments can read any more."""

from lookdone.books import book_of
from lookdone.expressions import columns_of, variables_of, with_variables
from lookdone.nodespans import span_at
from lookdone.slots import column_of, slot_expression


def is_hidden(log, position, other, *, entries=()):
    """Whether the put at the position is hidden at the other one."""
    book = book_of(log, entries)
    placed = book.at_position[position]
    key = known_key(placed)
    if key is None:
        return False
    later = book.heads_at(other).get(column_of(placed.statement))
    while later is not None and later.position > position:
        if known_key(later) == key:
            return True
        later = later.before
    return False


def live(log, moments, *, entries=()):
    """The positions of the statements that are live for these moments."""
    return tuple([placed.position for placed in live_in(book_of(log, entries), moments)])


def compact(log, moments, *, entries=()):
    """The compacted log for these moments."""
    return compacted_log(book_of(log, entries), moments)


def compacted_log(book, moments):
    """The compacted log of a book."""
    kept = [placed for placed in live_in(book, moments) if not is_known_let(placed)]
    return (book.marks, tuple([(placed.position, compacted(placed)) for placed in kept]))


def known_value(slot):
    """The value of the slot if it is known, otherwise None."""
    low, high = span_at(slot.root, slot.key)
    return low if low == high else slot.answer


def known_key(placed):
    """The key of a put if it is known; None otherwise, or if it is an each."""
    if placed.word == "each":
        return None
    return known_value(placed.slot_of("key", None))


def is_known_let(placed):
    """Whether it is a let that is known."""
    return placed.word == "let" and known_value(placed.slot_of("let", None)) is not None


def visible(writer):
    """The puts and eaches to a column that are visible right behind its last writer."""
    found = []
    hiding = {}
    while writer is not None:
        key = known_key(writer)
        if key is None or key not in hiding:
            found.append(writer)
        if key is not None:
            hiding[key] = True
        writer = writer.before
    return found


class Search:
    """A search for live statements."""

    def __init__(self):
        self.found = {}
        # Those of the found ones that may make more statements live.
        self.todo = []
        # The writers behind which all that is visible was found.
        self.seen_behind = {}

    def take(self, placed):
        """Take this statement as live."""
        if placed.position not in self.found:
            self.found[placed.position] = placed
            self.todo.append(placed)

    def take_visible(self, writer):
        """Take all as live that is visible right behind the last writer of a column."""
        if writer is None or writer.position in self.seen_behind:
            return
        self.seen_behind[writer.position] = True
        for placed in visible(writer):
            self.take(placed)

    def go_on(self):
        """Take all as live that the found ones make live."""
        while self.todo:
            placed = self.todo.pop()
            for name in open_variables(placed):
                self.take(placed.lets[name])
            for column in open_columns(placed):
                self.take_visible(placed.heads.get(column))


def live_in(book, moments):
    """The statements of the book that are live for these moments, in order."""
    search = Search()
    for moment in moments:
        heads = book.heads_at(book.marks[moment])
        for column in heads:
            search.take_visible(heads[column])
    search.go_on()
    return [search.found[position] for position in sorted(search.found)]


def open_expressions(placed):
    """The open expressions of a let, a put or an each."""
    if placed.word == "each":
        return [placed.statement[2], placed.statement[4]]
    words = ("let",) if placed.word == "let" else ("key", "value")
    unknown = [word for word in words if known_value(placed.slot_of(word, None)) is None]
    return [slot_expression(placed.statement, word) for word in unknown]


def open_variables(placed):
    """The variables in the open expressions."""
    return [name for expression in open_expressions(placed) for name in variables_of(expression)]


def open_columns(placed):
    """The columns that the open expressions name."""
    found = [column for expression in open_expressions(placed) for column in columns_of(expression)]
    if placed.word == "each":
        found.append((placed.statement[1], "in"))
    return found


def compacted(placed):
    """The statement as it stands in the compacted log."""
    statement = placed.statement
    if placed.word == "let":
        return ("let", statement[1], with_known_lets(statement[2], placed))
    if placed.word == "put":
        key, value = [compacted_slot(placed, word) for word in ("key", "value")]
        return ("put", statement[1], key, statement[3], value)
    condition = with_known_lets(statement[2], placed)
    return ("each", statement[1], condition, statement[3], with_known_lets(statement[4], placed))


def compacted_slot(placed, word):
    """The expression of a put's slot as it stands in the compacted log."""
    value = known_value(placed.slot_of(word, None))
    if value is not None:
        return ("int", value)
    return with_known_lets(slot_expression(placed.statement, word), placed)


def with_known_lets(expression, placed):
    """The expression with the values of the known lets in place of their variables."""
    known = {}
    for name in variables_of(expression):
        value = known_value(placed.lets[name].slot_of("let", None))
        if value is not None:
            known[name] = ("int", value)
    return with_variables(expression, known)
