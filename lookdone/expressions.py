"""Expressions: their forms, their parts, and the keys that they leave free.

No function here calls itself for the parts of an expression: it may be nested
deeper than calls can go.
"""

from lookdone.kinds import is_integer, is_name, is_value, word_of

# What stands behind the word of each form. In a part that is "free" a key means
# what it means around the expression; in one that is "bound" the expression
# itself says what it means; "extra" is a tuple of expressions, all free.
FIELDS = {
    "int": ("value",),
    "var": ("name",),
    "key": (),
    "let": ("position",),
    "cell": ("name", "free", "name"),
    "+": ("free", "free"),
    "-": ("free", "free"),
    "*": ("free", "free"),
    "<": ("free", "free"),
    "=": ("free", "free"),
    "if": ("free", "free", "free"),
    "at": ("free", "bound"),
    "count": ("name", "extra", "bound", "bound"),
    "sum": ("name", "extra", "bound", "bound", "bound"),
    "most": ("name", "extra", "bound", "bound", "bound", "free"),
    "first": ("name", "extra", "bound", "bound", "free"),
}

OPERATIONS = ("+", "-", "*", "<", "=")

AGGREGATES = ("count", "sum", "most", "first")

# Besides those of extra.
ALL_PARTS = ("free", "bound")


def is_expression(thing):
    """Whether the thing, any value of Python, is an expression."""
    todo = [thing]
    while todo:
        part = todo.pop()
        if not has_form(part):
            return False
        todo.extend(contained(part))
    return True


def has_form(thing):
    """Whether the thing is an expression if the things at the places of its parts are."""
    kinds = FIELDS.get(word_of(thing))
    if kinds is None or len(thing) != 1 + len(kinds):
        return False
    return all([fits(kind, part) for kind, part in zip(kinds, thing[1:])])


def fits(kind, part):
    """Whether the part is of its kind; expressions are not looked at."""
    if kind == "value":
        return is_value(part)
    if kind == "name":
        return is_name(part)
    if kind == "position":
        return is_integer(part) and part >= 0
    if kind == "extra":
        return isinstance(part, tuple)
    return True


def contained(expression):
    """The expressions that the expression contains directly, in order."""
    return contained_of(expression, ALL_PARTS)


def contained_free(expression):
    """Those of them in which a key means what it means around the expression."""
    return contained_of(expression, ("free",))


def contained_of(expression, wanted):
    """The contained expressions of extra, and those whose kinds are wanted."""
    found = []
    for kind, part in zip(FIELDS[expression[0]], expression[1:]):
        if kind == "extra":
            found.extend(part)
        elif kind in wanted:
            found.append(part)
    return found


def with_contained_of(expression, wanted, parts):
    """The expression with these parts in place of those of contained_of."""
    found = [expression[0]]
    used = 0
    for kind, part in zip(FIELDS[expression[0]], expression[1:]):
        if kind == "extra":
            found.append(tuple(parts[used:used + len(part)]))
            used += len(part)
        elif kind in wanted:
            found.append(parts[used])
            used += 1
        else:
            found.append(part)
    return tuple(found)


def folded(expression, wanted, made):
    """What is made of the expression: made(part, what was made of its contained_of)."""
    done = []
    todo = [(expression, False)]
    while todo:
        part, is_ready = todo.pop()
        inner = contained_of(part, wanted)
        if inner and not is_ready:
            todo.append((part, True))
            todo.extend([(thing, False) for thing in inner[::-1]])
        else:
            start = len(done) - len(inner)
            parts = done[start:]
            del done[start:]
            done.append(made(part, parts))
    return done[0]


def one_deeper(expressions):
    """What these expressions contain directly."""
    return [part for expression in expressions for part in contained(expression)]


def all_parts(expression):
    """The expression and all parts of it, each as often as it stands there."""
    found = []
    level = [expression]
    while level:
        found.extend(level)
        level = one_deeper(level)
    return found


def parts_of(expression):
    """How many parts the expression has."""
    return len(all_parts(expression))


def depth_of(expression):
    """How deep the expression is nested."""
    depth = 0
    level = [expression]
    while level:
        depth += 1
        level = one_deeper(level)
    return depth


def rows_of(table):
    """The X of a plain aggregate: whether the key is present in the table."""
    return ("cell", table, ("key",), "in")


def is_plain(expression):
    """Whether all aggregates take the rows of their tables, and there is no ("let", q)."""
    return all([is_plain_part(part) for part in all_parts(expression)])


def is_plain_part(part):
    """Whether the part, but for what it contains, may stand in a plain expression."""
    if part[0] in AGGREGATES:
        return part[2] == () and part[3] == rows_of(part[1])
    return part[0] != "let"


def has_free_key(expression):
    """Whether a key in the expression is bound by no aggregate and no at in it."""
    todo = [expression]
    while todo:
        part = todo.pop()
        if part[0] == "key":
            return True
        todo.extend(contained_free(part))
    return False


def is_closed(expression):
    """Whether the expression has neither a variable nor a free key."""
    return not variables_of(expression) and not has_free_key(expression)


def is_simple(expression):
    """Whether the expression has no aggregate."""
    return all([part[0] not in AGGREGATES for part in all_parts(expression)])


def variables_of(expression):
    """The variables in the expression, ascending."""
    return tuple(sorted({part[1] for part in all_parts(expression) if part[0] == "var"}))


def columns_of(expression):
    """The (table, column) that the expression names, ascending."""
    found = {}
    for part in all_parts(expression):
        if part[0] == "cell":
            found[(part[1], part[3])] = True
        elif part[0] in AGGREGATES:
            found[(part[1], "in")] = True
    return tuple(sorted(found))


def keyed(expression, other):
    """The expression with the other one, a closed one, in place of each free key."""
    wanted = ("free",)

    def made(part, parts):
        if part[0] == "key":
            return other
        return with_contained_of(part, wanted, parts) if parts else part

    return folded(expression, wanted, made)


def with_variables(expression, others):
    """The expression with the other ones in place of the variables that have one there."""

    def made(part, parts):
        if part[0] == "var":
            return others.get(part[1], part)
        return with_contained_of(part, ALL_PARTS, parts) if parts else part

    return folded(expression, ALL_PARTS, made)
