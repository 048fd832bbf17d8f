"""Tables as text."""

from lookdone.expressions import rows_of

WIDTH = 8

YES = ("int", 1)


def view(store, table, *columns, moment=None):
    """The rows of the table, with these columns, at the moment as for a look of the store."""
    lines = [line_of(["key", *columns])]
    for key in present_keys(store, table, moment):
        cells = [("cell", table, ("int", key), column) for column in columns]
        values = [store.look(cell, moment=moment) for cell in cells]
        lines.append(line_of([str(number) for number in [key, *values]]))
    return "\n".join(lines)


def line_of(texts):
    """The line with these entries."""
    return " ".join([text.rjust(WIDTH) for text in texts])


def present_keys(store, table, moment):
    """The present keys, ascending; what is evaluated for them is what their number needs."""
    many = store.look(("count", table, (), rows_of(table), YES), moment=moment)
    found = []
    while len(found) < many:
        # That this key is present, and that those below it are not, is known since they were counted.
        is_next = ("<", ("int", found[-1]), ("key",)) if found else YES
        found.append(store.look(("first", table, (), rows_of(table), is_next, ("int", 0)), moment=moment))
    return found
