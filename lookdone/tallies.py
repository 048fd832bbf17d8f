"""Aggregates, evaluated in the three steps of point 18."""

from lookdone.nodes import CONDITION, COUNTED, ROWS
from lookdone.nodespans import span_at
from lookdone.spans import clip


class Tally:
    """How far the evaluation of an aggregate has got."""

    def __init__(self, node, key):
        self.node = node
        self.key = key
        self.sources = sources_of(node, key)
        # How many of the sources were gone through, and the keys listed so far.
        self.many_listed = 0
        self.listed = {}
        # The listed keys, ascending, once they are all there; how many were gone through.
        self.in_order = None
        self.many_seen = 0
        # What counts of each key that was taken.
        self.found = []

    def tried(self, worker):
        """The value of the aggregate; None if something else comes first."""
        if not self.has_listed_all(worker) or not self.has_seen_all(worker):
            return None
        word = self.node.word
        if word in ("count", "sum"):
            return clip(sum(self.found))
        if not self.found:
            return worker.evaluate(self.node.parts[-1], self.key)
        return max(self.found)

    def has_listed_all(self, worker):
        """Go on with the first step; whether it is at its end."""
        while self.many_listed < len(self.sources):
            thing, key, slot = self.sources[self.many_listed]
            low, high = span_at(thing, key)
            if not self.has_listed_from(low, high):
                found = worker.evaluate(thing, key) if slot is None else worker.ask(slot)
                if found is None:
                    return False
                self.listed[found] = True
            self.many_listed += 1
        return True

    def has_listed_from(self, low, high):
        """Whether every integer from low to high is listed."""
        # Spans may be far too wide to go through them.
        if high - low >= len(self.listed):
            return False
        return all([key in self.listed for key in range(low, high + 1)])

    def has_seen_all(self, worker):
        """Go on with the second step; whether it is at its end."""
        if self.in_order is None:
            self.in_order = sorted(self.listed)
        while self.many_seen < len(self.in_order):
            if self.node.word == "first" and self.found:
                return True
            if not self.has_seen(worker, self.in_order[self.many_seen]):
                return False
            self.many_seen += 1
        return True

    def has_seen(self, worker, key):
        """Whether all is known of the key; then what counts of it was found."""
        for place in (ROWS, CONDITION):
            truth = worker.truth(self.node.part_of_rows(place), key)
            if truth is None:
                return False
            if not truth:
                return True
        found = self.counted(worker, key)
        if found is None:
            return False
        self.found.append(found)
        return True

    def counted(self, worker, key):
        """What counts of a key that is taken, or None."""
        if self.node.word == "count":
            return 1
        if self.node.word == "first":
            return key
        return worker.evaluate(self.node.part_of_rows(COUNTED), key)


def sources_of(node, key):
    """What the listed keys come from, in order: a thing, its key, and its slot if it is one."""
    found = [(part, key, None) for part in node.parts[:node.many_extra]]
    placed = node.source
    while placed is not None:
        if placed.word == "put":
            slot = placed.slot_of("key", None)
            found.append((slot.root, None, slot))
        placed = placed.before
    return found
