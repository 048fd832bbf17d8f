"""The values of plain expressions over tables.

An expression is turned into a course: its steps, one after another, on a stack
of values. Nothing here calls itself for the parts of an expression, which may be
nested deeper than calls can go. An aggregate is worked out once, however often
its value is asked for: only its D can depend on a key around it.
"""

from lookdone.expressions import AGGREGATES, contained
from lookdone.spans import clip


class Plan:
    """The course of an expression, and the unit of each aggregate in it.

    A unit is a tuple (word, table, course of P, course of what is summed up). It
    stands before the units of the aggregates within its P and V.
    """

    def __init__(self, expression):
        self.aggregates = []
        self.course = self.course_of(expression)
        self.units = []
        while len(self.units) < len(self.aggregates):
            self.units.append(self.unit_of(self.aggregates[len(self.units)]))

    def unit_of(self, aggregate):
        """The unit of an aggregate."""
        word, table = aggregate[:2]
        return (word, table, self.course_of(aggregate[4]), self.course_of(summed_up(aggregate)))

    def course_of(self, expression):
        """The steps that leave the value of the expression on the stack."""
        course = []
        todo = [expression]
        while todo:
            thing = todo.pop()
            course.append(self.step_of(thing))
            todo.extend(before(thing))
        # They were found from the last one back.
        return course[::-1]

    def step_of(self, thing):
        """The step that follows those of what stands before it."""
        if thing[0] not in AGGREGATES:
            return thing
        self.aggregates.append(thing)
        return (thing[0], len(self.aggregates) - 1)


def summed_up(aggregate):
    """The expression over whose values at the taken keys an aggregate goes."""
    if aggregate[0] == "count":
        return ("int", 1)
    if aggregate[0] == "first":
        return ("key",)
    return aggregate[5]


def before(thing):
    """What is worked out, in order, before the step of the thing."""
    word = thing[0]
    if word == "enter":
        return []
    if word == "at":
        return [thing[1], ("enter",), thing[2]]
    if word in ("most", "first"):
        return [thing[-1]]
    if word in ("count", "sum"):
        return []
    return contained(thing)


class Machine:
    """What a course works on."""

    def __init__(self, tables, variables):
        self.tables = tables
        self.variables = variables
        # What the aggregates come to, by the numbers of their units.
        self.totals = {}
        self.stack = []
        # The keys, from the outermost at to the innermost one.
        self.around = []

    def go_through(self, course, key):
        """The value at which the course arrives, with this key around it."""
        self.around = [key]
        for step in course:
            action = ACTIONS[step[0]]
            action(self, step)
        return self.stack.pop()

    def total(self, unit):
        """What the aggregate of the unit comes to; None if that is its D."""
        word, table, wanted, counted = unit
        taken = [key for key in self.tables.present(table) if self.go_through(wanted, key) != 0]
        found = [self.go_through(counted, key) for key in taken]
        if word in ("count", "sum"):
            return clip(sum(found))
        if not found:
            return None
        return max(found) if word == "most" else min(found)


def do_int(machine, step):
    """Take the number."""
    machine.stack.append(step[1])


def do_var(machine, step):
    """Take the value of the variable."""
    machine.stack.append(machine.variables[step[1]])


def do_key(machine, step):
    """Take the innermost key."""
    machine.stack.append(machine.around[-1])


def do_cell(machine, step):
    """Replace a key by the value of its cell."""
    key = machine.stack.pop()
    machine.stack.append(machine.tables.cell(step[1], key, step[3]))


def do_operation(machine, step):
    """Replace two values by the result."""
    other = machine.stack.pop()
    one = machine.stack.pop()
    machine.stack.append(result_of(step[0], one, other))


def result_of(word, one, other):
    """The result of an operation with two values."""
    if word == "+":
        return clip(one + other)
    if word == "-":
        return clip(one - other)
    if word == "*":
        return clip(one * other)
    if word == "<":
        return 1 if one < other else 0
    return 1 if one == other else 0


def do_if(machine, step):
    """Replace three values by the second or the third."""
    otherwise = machine.stack.pop()
    chosen = machine.stack.pop()
    if machine.stack.pop() == 0:
        chosen = otherwise
    machine.stack.append(chosen)


def do_enter(machine, step):
    """Make a value the key for what follows."""
    machine.around.append(machine.stack.pop())


def do_at(machine, step):
    """Go back to the key around the at."""
    machine.around.pop()


def do_total(machine, step):
    """Take what a count or a sum comes to."""
    machine.stack.append(machine.totals[step[1]])


def do_choice(machine, step):
    """Replace the value of D by what a most or a first comes to, if it is not D."""
    total = machine.totals[step[1]]
    if total is not None:
        machine.stack.pop()
        machine.stack.append(total)


ACTIONS = {
    "int": do_int,
    "var": do_var,
    "key": do_key,
    "cell": do_cell,
    "+": do_operation,
    "-": do_operation,
    "*": do_operation,
    "<": do_operation,
    "=": do_operation,
    "if": do_if,
    "enter": do_enter,
    "at": do_at,
    "count": do_total,
    "sum": do_total,
    "most": do_choice,
    "first": do_choice,
}


def plain_value(expression, tables, variables):
    """The value of a plain expression without a free key."""
    return plain_values(expression, tables, variables, [0])[0]


def plain_values(expression, tables, variables, keys):
    """The values of a plain expression with each of the keys for its free ones."""
    plan = Plan(expression)
    machine = Machine(tables, variables)
    for number in reversed(range(len(plan.units))):
        machine.totals[number] = machine.total(plan.units[number])
    return [machine.go_through(plan.course, key) for key in keys]
