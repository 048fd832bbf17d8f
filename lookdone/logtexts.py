"""The texts of logs with kept moments."""

from lookdone.errors import BadText
from lookdone.logs import are_marks, are_moments, start_of
from lookdone.numbertexts import number_in
from lookdone.statements import may_follow, names_let
from lookdone.statementtexts import read_statement, show_statement

# No position and no moment of a log has more digits.
MOST_DIGITS = 5


def show_log(log, kept):
    """The text of the log and the kept moments."""
    marks, entries = log
    lines = [show_numbers("marks", marks), show_numbers("kept", sorted(kept))]
    lines.extend([f"{position} {show_statement(statement)}" for position, statement in entries])
    return "\n".join(lines)


def show_numbers(word, numbers):
    """The line of the word and the numbers."""
    return " ".join([word, *[str(number) for number in numbers]])


def read_log(thing):
    """The log and the kept moments of which the thing, any value of Python, is the text, or BadText."""
    if not isinstance(thing, str):
        raise BadText(0)
    lines = thing.split("\n")
    marks = read_numbers("marks", lines[0])
    if not are_marks(marks):
        raise BadText(0)
    kept = read_numbers("kept", lines[1]) if len(lines) > 1 else None
    if not are_moments(kept, marks):
        raise BadText(1)
    return ((marks, read_entries(lines, marks)), kept)


def read_numbers(word, line):
    """The numbers behind the word in the line; None if that is no such line."""
    words = line.split(" ")
    if words[0] != word:
        return None
    numbers = tuple([number_in(text, MOST_DIGITS) for text in words[1:]])
    return None if None in numbers else numbers


def read_entries(lines, marks):
    """The entries of a log with these marks, from its lines behind the first two, or BadText."""
    entries = []
    known = {}
    least = 0
    start = 0
    for number, line in enumerate(lines[2:], start=2):
        position, statement = read_entry(line, number)
        if not least <= position < marks[-1]:
            raise BadText(number)
        if start != start_of(marks, position):
            start = start_of(marks, position)
            known = {}
        if not may_follow(statement, known):
            raise BadText(number)
        known.update(names_let(statement))
        entries.append((position, statement))
        least = position + 1
    return tuple(entries)


def read_entry(line, number):
    """The entry of which the line with this number is the text, or BadText(number)."""
    first, _, rest = line.partition(" ")
    position = number_in(first, MOST_DIGITS)
    if position is None:
        raise BadText(number)
    try:
        return (position, read_statement(rest))
    except BadText:
        raise BadText(number) from None
