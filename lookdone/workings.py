"""Evaluation by the rules of point 18, in turns.

A worker has a list of tasks; the last one is at work, and each of the others
waits for the answer of the one behind it. (A chain of statements may be longer
than calls can go deep.) A task is tried again from its start when what it waited
for has an answer; answers are kept, so it gets further each time.
"""

from lookdone.expressions import AGGREGATES
from lookdone.nodespans import NO, decides_yes, span_at
from lookdone.plainvalues import result_of
from lookdone.spans import same
from lookdone.tallies import Tally


class Worker:
    """A worker that does a first task; begun and ended are told what it begins and ends."""

    def __init__(self, number, first, begun, ended):
        self.number = number
        self.begun = begun
        self.ended = ended
        self.tasks = [first]
        self.has_turn = False
        # The answer of the task that was done last, so at the end that of the first one.
        self.told = None

    def is_done(self):
        """Whether the first task has its answer."""
        return not self.tasks

    def take_turn(self):
        """Go on until a slot is begun or waited for, or until the worker is done."""
        self.has_turn = True
        while self.has_turn and self.tasks:
            found = self.tasks[-1].tried(self)
            if found is not None:
                self.tasks.pop()
                self.told = found

    def evaluate(self, thing, key):
        """The value of the thing; None if it comes first to find it out."""
        low, high = span_at(thing, key)
        if low == high:
            return low
        found = self.answer_of(thing, key)
        if found is None:
            self.tasks.append(task_for(thing, key))
        return found

    def answer_of(self, thing, key):
        """The value of the thing if it was found out before, otherwise None."""
        return thing.answers.get(key if thing.is_keyed else None)

    def keep_answer(self, thing, key, found):
        """Keep what was found out."""
        thing.answers[key if thing.is_keyed else None] = found

    def truth(self, thing, key):
        """Whether the value of the thing is not 0, by its span if that decides; None as above."""
        if decides_yes(span_at(thing, key)):
            return True
        # A span that decides no has a single value, for which nothing is evaluated.
        found = self.evaluate(thing, key)
        return None if found is None else found != 0

    def ask(self, slot):
        """The value of the slot; None if it is begun now, or waited for: the turn ends."""
        low, high = span_at(slot.root, slot.key)
        if low == high:
            return low
        if slot.answer is None:
            self.has_turn = False
            if not slot.is_begun:
                slot.is_begun = True
                self.begun.append((slot.name, self.number))
                self.tasks.append(SlotTask(slot))
        return slot.answer


class Look:
    """The task to evaluate an expression; it is closed, or the key is the one that is free in it."""

    def __init__(self, root, key=None):
        self.root = root
        self.key = key

    def tried(self, worker):
        """The value, or None."""
        return worker.evaluate(self.root, self.key)


class Request:
    """The task to ask a slot."""

    def __init__(self, slot):
        self.slot = slot

    def tried(self, worker):
        """The value, or None."""
        return worker.ask(self.slot)


class SlotTask:
    """The task to evaluate a slot that was begun."""

    def __init__(self, slot):
        self.slot = slot

    def tried(self, worker):
        """The value, or None."""
        slot = self.slot
        found = worker.evaluate(slot.root, slot.key)
        if found is not None:
            slot.answer = found
            worker.ended.append((slot.name, found))
        return found


class Task:
    """The task to evaluate a thing with a key; it is told by a rule, or by a tally."""

    def __init__(self, thing, key, tally):
        self.thing = thing
        self.key = key
        self.tally = tally

    def tried(self, worker):
        """The value, or None."""
        thing = self.thing
        if self.tally is None:
            action = RULES[thing.word]
            found = action(worker, thing, self.key)
        else:
            found = self.tally.tried(worker)
        if found is not None:
            worker.keep_answer(thing, self.key, found)
        return found


def task_for(thing, key):
    """The task to evaluate the thing."""
    tally = Tally(thing, key) if thing.word in AGGREGATES else None
    return Task(thing, key, tally)


def value_of_let(worker, node, key):
    """The value of a variable or of ("let", q)."""
    return worker.ask(node.source.slot_of("let", None))


def value_of_cell(worker, node, key):
    """The value of a cell where its node stands."""
    place = worker.evaluate(node.parts[0], key)
    if place is None:
        return None
    return worker.evaluate(node.source, place)


def value_of_sum(worker, node, key):
    """The value of an operation that needs both its parts."""
    one = worker.evaluate(node.parts[0], key)
    if one is None:
        return None
    other = worker.evaluate(node.parts[1], key)
    if other is None:
        return None
    return result_of(node.word, one, other)


def value_of_same(worker, node, key):
    """The value of an =, without its second part if that cannot be the same."""
    one = worker.evaluate(node.parts[0], key)
    if one is None:
        return None
    low, high = span_at(node.parts[1], key)
    if not low <= one <= high:
        return 0
    other = worker.evaluate(node.parts[1], key)
    if other is None:
        return None
    return 1 if one == other else 0


def value_of_less(worker, node, key):
    """The value of a <, without its second part if its span tells enough."""
    one = worker.evaluate(node.parts[0], key)
    if one is None:
        return None
    low, high = span_at(node.parts[1], key)
    if one < low:
        return 1
    if one >= high:
        return 0
    other = worker.evaluate(node.parts[1], key)
    if other is None:
        return None
    return 1 if one < other else 0


def value_of_if(worker, node, key):
    """The value of an if."""
    truth = worker.truth(node.parts[0], key)
    if truth is None:
        return None
    return worker.evaluate(node.parts[1 if truth else 2], key)


def value_of_at(worker, node, key):
    """The value of an at."""
    place = worker.evaluate(node.parts[0], key)
    if place is None:
        return None
    return worker.evaluate(node.parts[1], place)


def value_behind_put(worker, placed, key):
    """The value of the cell with this key behind a put."""
    slot = placed.slot_of("key", None)
    span = same((key, key), span_at(slot.root, None))
    truth = span != NO
    if span == (0, 1):
        place = worker.ask(slot)
        if place is None:
            return None
        truth = place == key
    if truth:
        return worker.ask(placed.slot_of("value", None))
    return worker.evaluate(placed.before, key)


def value_behind_each(worker, placed, key):
    """The value of the cell with this key behind an each."""
    slot = placed.slot_of("guard", key)
    span = span_at(slot.root, key)
    truth = decides_yes(span)
    if not truth and span != NO:
        guard = worker.ask(slot)
        if guard is None:
            return None
        truth = guard != 0
    if truth:
        return worker.ask(placed.slot_of("value", key))
    return worker.evaluate(placed.before, key)


RULES = {
    "var": value_of_let,
    "let": value_of_let,
    "cell": value_of_cell,
    "+": value_of_sum,
    "-": value_of_sum,
    "*": value_of_sum,
    "<": value_of_less,
    "=": value_of_same,
    "if": value_of_if,
    "at": value_of_at,
    "put": value_behind_put,
    "each": value_behind_each,
}


def evaluated_by_one(first):
    """The answer of a first task, and the slots that were evaluated for it, with their values."""
    return finished(Worker(0, first, [], []))


def finished(worker):
    """The answer of the worker's first task, and the slots that were evaluated for it, with their values."""
    while not worker.is_done():
        worker.take_turn()
    return (worker.told, worker.ended)
