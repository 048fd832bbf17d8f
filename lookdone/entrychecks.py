"""Whether evaluated slots, of which it is said what values they have, have these values.

Nothing here evaluates a slot: where an evaluation would have to, it is stuck.
"""

from lookdone.kinds import is_value
from lookdone.logs import statements_of
from lookdone.nodespans import span_at
from lookdone.slots import has_slot_form, is_slot_of
from lookdone.workings import Look, Worker


class Checker(Worker):
    """A worker that is stuck where it asks a slot that is not known."""

    def __init__(self, first):
        super().__init__(0, first, [], [])
        self.is_stuck = False

    def ask(self, slot):
        """The value of the slot, or None if the worker is stuck."""
        low, high = span_at(slot.root, slot.key)
        if low == high:
            return low
        if slot.answer is None:
            self.is_stuck = True
            self.has_turn = False
        return slot.answer


def value_alone(root, key):
    """The value of the node with this key, found without evaluating a slot; None if that cannot be."""
    checker = Checker(Look(root, key))
    checker.take_turn()
    return None if checker.is_stuck else checker.told


def are_slot_entries(log, thing):
    """Whether the thing, any value of Python, is an ascending tuple of (slot, value), no slot twice."""
    if not isinstance(thing, tuple):
        return False
    statements = statements_of(log)
    if not all([is_slot_entry(statements, entry) for entry in thing]):
        return False
    return all([one[0] < other[0] for one, other in zip(thing, thing[1:])])


def is_slot_entry(statements, thing):
    """Whether the thing is a slot of one of the statements, by position, with a value."""
    if not isinstance(thing, tuple) or len(thing) != 2 or not is_value(thing[1]):
        return False
    slot = thing[0]
    return has_slot_form(slot) and is_slot_of(statements.get(slot[0]), slot)


def do_hold(book, entries):
    """Whether each of the book's evaluated slots has its value, evaluated with the others alone."""
    # They are ascending, and a slot reads only what is below it: so whatever an
    # evaluation takes of them was found to be right before.
    for name, value in entries:
        slot = book.slot_named(name)
        if value_alone(slot.root, slot.key) != value:
            return False
    return True
