"""The plain store once more, written down from the document without any care for speed or depth."""

from tests.samples import L


def clipped(number):
    return max(-L, min(L, number))


class NaiveStore:
    """Points 9, 10 and 11, word for word."""

    def __init__(self):
        self.moments = [({}, {})]

    def commit(self, transaction):
        """The told values, or the number of the need that refuses, in a list."""
        cells, rows = self.moments[-1]
        cells = dict(cells)
        rows = {table: set(keys) for table, keys in rows.items()}
        variables = {}
        told = []

        def value(expression, key=None):
            return naive_value(expression, cells, rows, variables, key)

        for number, statement in enumerate(transaction):
            if statement[0] == "let":
                variables[statement[1]] = value(statement[2])
            elif statement[0] == "put":
                _, table, e, column, f = statement
                key, new = value(e), value(f)
                cells[(table, key, column)] = new
                if column == "in":
                    rows.setdefault(table, set()).add(key)
            elif statement[0] == "each":
                _, table, p, column, f = statement
                present = [key for key in rows.get(table, ()) if cells.get((table, key, "in"), 0) != 0]
                found = [(key, value(p, key), value(f, key)) for key in present]
                for key, is_wanted, new in found:
                    if is_wanted != 0:
                        cells[(table, key, column)] = new
            elif statement[0] == "need":
                if value(statement[1]) == 0:
                    return [number]
            else:
                told.append(value(statement[1]))
        self.moments.append((cells, rows))
        return tuple(told)

    def value(self, expression, moment):
        cells, rows = self.moments[moment]
        return naive_value(expression, cells, rows, {}, None)


def naive_value(expression, cells, rows, variables, key):

    def value(part, inner_key=key):
        return naive_value(part, cells, rows, variables, inner_key)

    word, *rest = expression
    if word == "int":
        return rest[0]
    if word == "var":
        return variables[rest[0]]
    if word == "key":
        return key
    if word == "cell":
        return cells.get((rest[0], value(rest[1]), rest[2]), 0)
    if word == "+":
        return clipped(value(rest[0]) + value(rest[1]))
    if word == "-":
        return clipped(value(rest[0]) - value(rest[1]))
    if word == "*":
        return clipped(value(rest[0]) * value(rest[1]))
    if word == "<":
        return int(value(rest[0]) < value(rest[1]))
    if word == "=":
        return int(value(rest[0]) == value(rest[1]))
    if word == "if":
        return value(rest[1]) if value(rest[0]) != 0 else value(rest[2])
    if word == "at":
        return value(rest[1], value(rest[0]))
    table, extra, x, p, *more = rest
    keys = set(rows.get(table, ())) | {value(part) for part in extra}
    taken = [one for one in sorted(keys) if value(x, one) != 0 and value(p, one) != 0]
    if word == "count":
        return clipped(len(taken))
    if word == "sum":
        return clipped(sum(value(more[0], one) for one in taken))
    if not taken:
        return value(more[-1])
    if word == "first":
        return taken[0]
    return max(value(more[0], one) for one in taken)
