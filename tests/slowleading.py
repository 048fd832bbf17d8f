"""Point 24 once more, word for word, by calls: what a step makes of an expression."""

from tests.samples import KEY
from tests.slow import SlowLog


def slow_led(log, expression, position):
    """The expression led back from the position to the one before, however large it gets."""
    p = position - 1
    slow = SlowLog(log)
    s = slow.statements.get(p, ("none",))

    def with_lets(thing):
        if not isinstance(thing, tuple):
            return thing
        if thing[:1] == ("var",):
            return ("let", slow.let_position(p, thing[1]))
        return tuple(with_lets(part) for part in thing)

    def back(thing):
        word = thing[0]
        if word in ("int", "key"):
            return thing
        if word == "let":
            return with_lets(s[2]) if s[0] == "let" and thing[1] == p else thing
        if word == "cell":
            return cell_back(thing[1], back(thing[2]), thing[3])
        if word in ("count", "sum", "most", "first"):
            extra = tuple(back(part) for part in thing[2])
            if s[0] == "put" and (s[1], s[3]) == (thing[1], "in"):
                extra += (with_lets(s[2]),)
            return (word, thing[1], extra, *[back(part) for part in thing[3:]])
        return (word, *[back(part) for part in thing[1:]])

    def cell_back(table, key, column):
        if s[0] == "put" and (s[1], s[3]) == (table, column):
            e, f = with_lets(s[2]), with_lets(s[4])
            return ("at", key, ("if", ("=", KEY, e), f, ("cell", table, KEY, column)))
        if s[0] == "each" and (s[1], s[3]) == (table, column):
            p_of_each, f = with_lets(s[2]), with_lets(s[4])
            guard = ("if", ("cell", table, KEY, "in"), p_of_each, ("int", 0))
            return ("at", key, ("if", guard, f, ("cell", table, KEY, column)))
        return ("cell", table, key, column)

    return back(expression)


def inner(expression):
    """The expressions that an expression contains directly."""
    found = []
    for part in expression[1:]:
        if isinstance(part, tuple) and part and isinstance(part[0], str):
            found.append(part)
        elif isinstance(part, tuple):
            found += part
    return found


def size(expression):
    """How many parts it has, and how deep it is nested."""
    sizes = [size(part) for part in inner(expression)]
    return 1 + sum(parts for parts, _ in sizes), 1 + max([depth for _, depth in sizes], default=0)


def slow_way(log, expression, position, cut, most=2000):
    """The expressions led back by no step, by one and so on; it ends early where they get too large."""
    way = [expression]
    while position > cut:
        expression = slow_led(log, expression, position)
        parts, depth = size(expression)
        if parts > most or depth > most // 20:
            break
        position -= 1
        way.append(expression)
    return way
