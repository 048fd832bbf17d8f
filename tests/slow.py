"""Spans, evaluation and workers once more, written down from points 13 to 19 and 28 of the document.

Nothing here cares for depth, and only the spans are remembered. The expressions
are taken as they are: the key that is free in them is passed beside them.
"""

from tests.samples import L


def clipped(number):
    return max(-L, min(L, number))


def product_span(one, other):
    products = [a * b for a in one for b in other]
    return clipped(min(products)), clipped(max(products))


def operation_span(word, one, other):
    if word == "+":
        return clipped(one[0] + other[0]), clipped(one[1] + other[1])
    if word == "-":
        return clipped(one[0] - other[1]), clipped(one[1] - other[0])
    if word == "*":
        return product_span(one, other)
    if word == "<":
        return (1, 1) if one[1] < other[0] else (0, 0) if one[0] >= other[1] else (0, 1)
    if one == other and one[0] == one[1]:
        return (1, 1)
    return (0, 0) if one[1] < other[0] or other[1] < one[0] else (0, 1)


def operation_value(word, one, other):
    if word in ("<", "="):
        return int(one < other if word == "<" else one == other)
    return clipped({"+": one + other, "-": one - other, "*": one * other}[word])


def decides(span):
    """True for yes, False for no, None if the span decides nothing."""
    if span == (0, 0):
        return False
    return None if span[0] <= 0 <= span[1] else True


class SlowLog:
    """A log, and slots that were evaluated in it."""

    def __init__(self, log, entries=()):
        self.marks, self.entries = log
        self.statements = dict(self.entries)
        self.known = dict(entries)
        self.ended = []
        self.begun = []
        self.spans = {}

    # What stands in the log.

    def last_writer(self, table, column, p):
        found = [
            q for q, statement in self.entries
            if q < p and statement[0] in ("put", "each") and (statement[1], statement[3]) == (table, column)
        ]
        return found[-1] if found else None

    def let_position(self, p, x):
        start = max(mark for mark in self.marks if mark <= p)
        found = [q for q, statement in self.entries if start <= q < p and statement[:2] == ("let", x)]
        assert len(found) == 1
        return found[0]

    def slot_parts(self, slot):
        """The expression of a slot, its position, and the key that is free in it."""
        p, word = slot[:2]
        statement = self.statements[p]
        key = slot[2] if len(slot) == 3 else None
        if word == "guard":
            rows = ("cell", statement[1], ("key",), "in")
            return ("if", rows, statement[2], ("int", 0)), p, key
        if word == "key":
            return statement[2], p, key
        return statement[-1], p, key

    def is_slot(self, slot):
        words = {"put": ("key", "value"), "each": ("guard", "value")}
        word = self.statements[slot[0]][0]
        return slot[1] in words.get(word, (word,)) and (len(slot) == 3) == (word == "each")

    # Spans.

    def slot_span(self, slot):
        return self.span(*self.slot_parts(slot))

    def span(self, expression, p, key=None):
        name = (expression, p, key)
        if name not in self.spans:
            self.spans[name] = self.new_span(expression, p, key)
        return self.spans[name]

    def new_span(self, expression, p, key):
        word, *rest = expression
        if word == "int":
            return rest[0], rest[0]
        if word == "key":
            return key, key
        if word == "var":
            return self.slot_span((self.let_position(p, rest[0]), "let"))
        if word == "let":
            return self.slot_span((rest[0], "let"))
        if word == "count":
            return 0, L
        if word in ("sum", "most", "first"):
            return -L, L
        if word == "if":
            return self.if_span(self.span(rest[0], p, key), (rest[1], p, key), (rest[2], p, key))
        if word == "at":
            low, high = self.span(rest[0], p, key)
            return self.span(rest[1], p, low) if low == high else (-L, L)
        if word == "cell":
            low, high = self.span(rest[1], p, key)
            return self.cell_span(rest[0], low, rest[2], p) if low == high else (-L, L)
        return operation_span(word, self.span(rest[0], p, key), self.span(rest[1], p, key))

    def if_span(self, condition, one, other):
        truth = decides(condition)
        if truth is not None:
            return self.span(*(one if truth else other))
        first, second = self.span(*one), self.span(*other)
        return min(first[0], second[0]), max(first[1], second[1])

    def cell_span(self, table, k, column, p):
        q = self.last_writer(table, column, p)
        if q is None:
            return 0, 0
        below = (("cell", table, ("int", k), column), q)
        if self.statements[q][0] == "put":
            condition = operation_span("=", (k, k), self.slot_span((q, "key")))
            return self.if_span(condition, self.slot_parts((q, "value")), below)
        condition = self.slot_span((q, "guard", k))
        return self.if_span(condition, self.slot_parts((q, "value", k)), below)

    # Evaluation: generators that stop where a turn ends, and return the value.

    def value(self, expression, p, key=None, worker=0):
        low, high = self.span(expression, p, key)
        if low == high:
            return low
        word, *rest = expression
        if word == "var":
            return (yield from self.ask((self.let_position(p, rest[0]), "let"), worker))
        if word == "let":
            return (yield from self.ask((rest[0], "let"), worker))
        if word == "if":
            truth = yield from self.truth(rest[0], p, key, worker)
            return (yield from self.value(rest[1] if truth else rest[2], p, key, worker))
        if word == "at":
            k = yield from self.value(rest[0], p, key, worker)
            return (yield from self.value(rest[1], p, k, worker))
        if word == "cell":
            k = yield from self.value(rest[1], p, key, worker)
            return (yield from self.cell_value(rest[0], k, rest[2], p, worker))
        if word in ("count", "sum", "most", "first"):
            return (yield from self.aggregate_value(expression, p, key, worker))
        one = yield from self.value(rest[0], p, key, worker)
        low, high = self.span(rest[1], p, key)
        if word == "=" and not low <= one <= high:
            return 0
        if word == "<" and one < low:
            return 1
        if word == "<" and one >= high:
            return 0
        other = yield from self.value(rest[1], p, key, worker)
        return operation_value(word, one, other)

    def truth(self, condition, p, key, worker):
        truth = decides(self.span(condition, p, key))
        if truth is None:
            truth = (yield from self.value(condition, p, key, worker)) != 0
        return truth

    def cell_value(self, table, k, column, p, worker):
        low, high = self.cell_span(table, k, column, p)
        if low == high:
            return low
        q = self.last_writer(table, column, p)
        if self.statements[q][0] == "put":
            slots = (q, "key"), (q, "value")
            truth = decides(operation_span("=", (k, k), self.slot_span(slots[0])))
            if truth is None:
                truth = (yield from self.ask(slots[0], worker)) == k
        else:
            slots = (q, "guard", k), (q, "value", k)
            truth = decides(self.slot_span(slots[0]))
            if truth is None:
                truth = (yield from self.ask(slots[0], worker)) != 0
        if truth:
            return (yield from self.ask(slots[1], worker))
        return (yield from self.cell_value(table, k, column, q, worker))

    def aggregate_value(self, expression, p, key, worker):
        word, table, extra, x, condition, *more = expression
        keys = yield from self.listed_keys(table, extra, p, key, worker)
        taken = []
        for k in sorted(keys):
            if not (yield from self.truth(x, p, k, worker)):
                continue
            if not (yield from self.truth(condition, p, k, worker)):
                continue
            if word == "first":
                return k
            taken.append(1 if word == "count" else (yield from self.value(more[0], p, k, worker)))
        if word in ("count", "sum"):
            return clipped(sum(taken))
        if taken:
            return max(taken)
        return (yield from self.value(more[-1], p, key, worker))

    def listed_keys(self, table, extra, p, key, worker):
        keys = set()
        for part in extra:
            if not covers(keys, self.span(part, p, key)):
                keys.add((yield from self.value(part, p, key, worker)))
        for q, statement in reversed(self.entries):
            if q < p and statement[0] == "put" and (statement[1], statement[3]) == (table, "in"):
                if not covers(keys, self.slot_span((q, "key"))):
                    keys.add((yield from self.ask((q, "key"), worker)))
        return keys

    def ask(self, slot, worker):
        assert self.is_slot(slot)
        low, high = self.slot_span(slot)
        if low == high:
            return low
        while slot not in self.known and slot in dict(self.begun):
            yield
        if slot not in self.known:
            self.begun.append((slot, worker))
            yield
            value = yield from self.value(*self.slot_parts(slot), worker)
            self.known[slot] = value
            self.ended.append((slot, value))
        return self.known[slot]

    # What the package has functions for.

    def evaluated(self, expression, p):
        value = finished(self.value(expression, p))
        return value, tuple(self.ended)

    def worked(self, looks, turns):
        workers = [SlowWorker(self.value(*look, None, number)) for number, look in enumerate(looks)]
        for number in turns:
            workers[number].turn()
        while not all(worker.is_done for worker in workers):
            for worker in workers:
                worker.turn()
        return tuple(worker.told for worker in workers), tuple(self.begun)


def covers(keys, span):
    low, high = span
    return high - low < len(keys) and all(k in keys for k in range(low, high + 1))


class SlowWorker:

    def __init__(self, steps):
        self.steps = steps
        self.is_done = False
        self.told = None

    def turn(self):
        if not self.is_done:
            try:
                next(self.steps)
            except StopIteration as end:
                self.is_done = True
                self.told = end.value


def finished(steps):
    worker = SlowWorker(steps)
    while not worker.is_done:
        worker.turn()
    return worker.told
