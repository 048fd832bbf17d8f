"""Traces: a value, and the slots that it needs with their values."""

from lookdone.evaluation import evaluated


def trace_of(log, expression, position):
    """The told trace of a closed plain expression at the position."""
    value, found = evaluated(log, expression, position)
    return (value, tuple(sorted(found)))
