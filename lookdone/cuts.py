"""Evaluation at a cut, without building the expression that is led back to it."""

from lookdone.workings import Look, Worker, finished


class CutWorker(Worker):
    """A worker to whom the slots at the cut and above it are parts of the expression."""

    def __init__(self, first, cut):
        super().__init__(0, first, [], [])
        self.cut = cut
        # What was found out here is not kept at the things themselves: it was found
        # without evaluating slots that a look without a cut has to evaluate.
        self.found_here = {}

    def answer_of(self, thing, key):
        """The value of the thing if it was found out before, otherwise None."""
        found = self.found_here.get((thing, key if thing.is_keyed else None))
        # What a look without a cut has found out needs slots that are all known.
        return super().answer_of(thing, key) if found is None else found

    def keep_answer(self, thing, key, found):
        """Keep what was found out, for this worker alone."""
        self.found_here[(thing, key if thing.is_keyed else None)] = found

    def ask(self, slot):
        """The value of the slot, as of a part if it does not stand below the cut."""
        if slot.name[0] >= self.cut:
            return self.evaluate(slot.root, slot.key)
        return super().ask(slot)


def evaluated_at_cut(root, cut):
    """The value of the node, and the slots below the cut that were evaluated for it, with their values."""
    return finished(CutWorker(Look(root), cut))
