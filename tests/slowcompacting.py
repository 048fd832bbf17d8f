"""Points 29 to 31 once more, word for word: the live statements as a least set."""

from tests.slow import SlowLog


def parts(expression):
    """The expression and all expressions in it; strings and numbers are no tuples."""
    found = [expression] if expression and isinstance(expression[0], str) else []
    for part in expression:
        if isinstance(part, tuple):
            found += parts(part)
    return found


def named(expression):
    """The columns that an expression names."""
    cells = {(part[1], part[3]) for part in parts(expression) if part[0] == "cell"}
    return cells | {(part[1], "in") for part in parts(expression) if part[0] in ("count", "sum", "most", "first")}


class SlowCompacting:

    def __init__(self, log, entries):
        self.slow = SlowLog(log, entries)
        self.marks, self.entries = log
        self.statements = self.slow.statements

    def known(self, slot):
        low, high = self.slow.slot_span(slot)
        return low if low == high else self.slow.known.get(slot)

    def column(self, q):
        return self.statements[q][1], self.statements[q][3]

    def writers(self):
        return [q for q, statement in self.entries if statement[0] in ("put", "each")]

    def is_hidden(self, q, p):
        if self.statements[q][0] != "put" or self.known((q, "key")) is None:
            return False
        return any(
            q < other < p and self.statements[other][0] == "put" and self.column(other) == self.column(q)
            and self.known((other, "key")) == self.known((q, "key"))
            for other in self.writers()
        )

    def visible(self, p, columns=None):
        return {
            q for q in self.writers()
            if q < p and not self.is_hidden(q, p) and (columns is None or self.column(q) in columns)
        }

    def open_expressions(self, q):
        statement = self.statements[q]
        if statement[0] == "each":
            return [statement[2], statement[4]]
        if statement[0] == "let":
            return [statement[2]] if self.known((q, "let")) is None else []
        pairs = (("key", statement[2]), ("value", statement[4]))
        return [expression for word, expression in pairs if self.known((q, word)) is None]

    def live(self, moments):
        found = set().union(*[self.visible(self.marks[m]) for m in moments])
        while True:
            more = set().union(found, *[self.made_live_by(q) for q in found])
            if more == found:
                return tuple(sorted(found))
            found = more

    def made_live_by(self, q):
        found = set()
        for expression in self.open_expressions(q):
            columns = named(expression)
            if self.statements[q][0] == "each":
                columns = columns | {(self.statements[q][1], "in")}
            found |= self.visible(q, columns)
            found |= {self.slow.let_position(q, part[1]) for part in parts(expression) if part[0] == "var"}
        return found

    def compact(self, moments):
        live = self.live(moments)
        entries = tuple(
            (q, self.compacted(q)) for q in live
            if self.statements[q][0] != "let" or self.known((q, "let")) is None
        )
        return self.marks, entries

    def compacted(self, q):
        statement = self.statements[q]
        if statement[0] == "let":
            return ("let", statement[1], self.replaced(statement[2], q))
        if statement[0] == "each":
            _, table, p, column, f = statement
            return ("each", table, self.replaced(p, q), column, self.replaced(f, q))
        _, table, e, column, f = statement
        key, value = self.known((q, "key")), self.known((q, "value"))
        e = self.replaced(e, q) if key is None else ("int", key)
        f = self.replaced(f, q) if value is None else ("int", value)
        return ("put", table, e, column, f)

    def replaced(self, thing, q):
        if not isinstance(thing, tuple):
            return thing
        if thing[:1] == ("var",):
            value = self.known((self.slow.let_position(q, thing[1]), "let"))
            return thing if value is None else ("int", value)
        return tuple(self.replaced(part, q) for part in thing)
