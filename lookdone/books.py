"""Books: logs whose statements are tied to each other, with what was found out of them.

A book is not changed once it is made. A book that goes on from another one has
the very same placed statements for what both have, so that what is found out of
these is found out for both.
"""

from lookdone.logs import parted
from lookdone.nodes import planted
from lookdone.slots import column_of, slot_expression


class Slot:
    """A slot, with its value if it was evaluated."""

    def __init__(self, name, root, key):
        self.name = name
        self.root = root
        self.key = key
        # None until the slot was evaluated.
        self.answer = None
        # Whether a worker has begun to evaluate it.
        self.is_begun = False


class Placed:
    """A statement at its position.

    A put or an each is also a node in the sense of what is asked of it: with a key
    it stands for the cell with this key, as it is just behind the statement.
    """

    def __init__(self, position, statement, heads, lets):
        self.position = position
        self.statement = statement
        self.word = statement[0]
        # The last writers of the columns below it.
        self.heads = heads
        self.lets = lets
        # The last writer, below it, of the column that it writes.
        self.before = heads.get(column_of(statement))
        self.roots = {}
        self.slots = {}
        self.is_keyed = True
        self.fixed = None
        self.spans = {}
        self.answers = {}

    def node_of(self, word):
        """The node of its slots of this word."""
        if word not in self.roots:
            expression = slot_expression(self.statement, word)
            self.roots[word] = planted(expression, self.heads, self.lets)
        return self.roots[word]

    def slot_of(self, word, key):
        """Its slot of this word; the key is None if it is no each."""
        name = (self.position, word) if key is None else (self.position, word, key)
        if name not in self.slots:
            self.slots[name] = Slot(name, self.node_of(word), key)
        return self.slots[name]


class Book:
    """The statements of a log, placed."""

    def __init__(self):
        self.marks = (0,)
        self.placed = []
        self.at_position = {}
        # The last writer of each (table, column).
        self.heads = {}

    def end(self):
        """The last mark."""
        return self.marks[-1]

    def heads_at(self, position):
        """The last writers of the columns below the position."""
        low = 0
        high = len(self.placed)
        while low < high:
            middle = (low + high) // 2
            if self.placed[middle].position < position:
                low = middle + 1
            else:
                high = middle
        return self.placed[low].heads if low < len(self.placed) else self.heads

    def node_at(self, expression, position):
        """The node of a closed expression that stands at the position."""
        return planted(expression, self.heads_at(position), self.at_position)

    def slot_named(self, name):
        """The slot of this name, (position, word) or (position, word, key)."""
        key = name[2] if len(name) == 3 else None
        return self.at_position[name[0]].slot_of(name[1], key)


def grown(book, entries, mark):
    """A book that goes on from this one with the entries of one transaction, up to the mark."""
    after = Book()
    after.marks = (*book.marks, mark)
    after.placed = list(book.placed)
    after.at_position = {position: book.at_position[position] for position in book.at_position}
    after.heads = book.heads
    place_all(after, entries)
    return after


def place_all(book, entries):
    """Place the entries of one transaction behind what the book has."""
    lets = {}
    for position, statement in entries:
        placed = Placed(position, statement, book.heads, lets)
        book.placed.append(placed)
        book.at_position[position] = placed
        if statement[0] == "let":
            # Statements of the transaction share the dict: a valid one has no variable twice.
            lets[statement[1]] = placed
        column = column_of(statement)
        if column is not None:
            # The heads below a statement stay as they are, so a writer makes new ones.
            book.heads = {name: book.heads[name] for name in book.heads}
            book.heads[column] = placed


def book_of(log, entries=()):
    """The book of a log, in which these slots were evaluated before."""
    marks, statements = log
    book = Book()
    book.marks = marks
    for part in parted(marks, statements):
        place_all(book, part)
    for name, value in entries:
        slot = book.slot_named(name)
        slot.answer = value
    return book


def log_in(book):
    """The log of a book."""
    return (book.marks, tuple([(placed.position, placed.statement) for placed in book.placed]))
