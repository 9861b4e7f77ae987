"""A second meaning of programs, written apart from the package, to compare it with.

Each cell is a list [value, slope], and a variable is the list of its cells, so
what a call hands over is the caller's own list.
"""

PRIME = 2147483647


class Stop(Exception):
    """A fault, with its text."""


class Oracle:
    def __init__(self, tree, fuel):
        self.tree = tree
        self.fuel = min(max(fuel, 0), 300)
        self.ticks = self.operations = self.assignments = self.calls = self.beat = 0

    def run_beat(self, variables, beat):
        self.ticks = self.operations = self.assignments = self.calls = 0
        self.beat = beat
        try:
            self.body(self.tree[3], variables, {})
        except Stop as stop:
            return str(stop)
        return None

    def tick(self):
        if self.ticks + 1 > self.fuel:
            raise Stop("fuel")
        self.ticks += 1

    def body(self, body, variables, integers):
        for statement in body:
            getattr(self, statement[0] + "_statement")(variables, integers, *statement[1:])

    def set_statement(self, variables, integers, place, expression):
        pair = self.number(expression, variables, integers)
        cell = self.cell(variables, integers, *place)
        self.tick()
        self.assignments += 1
        cell[:] = pair

    def loop_statement(self, variables, integers, name, index, body):
        last = self.integer(index, integers)
        k = 0
        while k < last:
            self.tick()
            self.body(body, variables, {**integers, name: k})
            k += 1

    def if_statement(self, variables, integers, test, first, second):
        self.body(first if self.test(test, variables, integers) else second, variables, integers)

    def call_statement(self, variables, integers, name, indexes, handed):
        numbers = [self.integer(index, integers) for index in indexes]
        self.tick()
        if self.calls >= 6:
            raise Stop("calls")
        [(_, names, references, body)] = [each for each in self.tree[2] if each[0] == name]
        seen = {name: variables[name] for name, _ in self.tree[1]}
        for k, (reference, _) in enumerate(references):
            seen[reference] = variables[handed[k]]
        self.calls += 1
        self.body(body, seen, dict(zip(names, numbers)))
        self.calls -= 1

    def let_statement(self, variables, integers, name, expression, body):
        pair = self.number(expression, variables, integers)
        self.assignments += 1
        self.body(body, {**variables, name: [list(pair)]}, integers)

    def test(self, test, variables, integers):
        if test[0] == "not":
            return not self.test(test[1], variables, integers)
        if test[0] == "zero":
            return self.number(test[1], variables, integers)[0] == 0
        left, right = [self.integer(index, integers) for index in test[1:]]
        return left < right if test[0] == "less" else left == right

    def integer(self, index, integers):
        if index[0] == "rem":
            return self.integer(index[1], integers) % index[2]
        if index[0] in ("plus", "minus", "times"):
            left, right = [self.integer(part, integers) for part in index[1:]]
            value = {"plus": left + right, "minus": left - right, "times": left * right}[index[0]]
        else:
            value = {"integer": lambda: index[1], "index": lambda: integers[index[1]], "beat": lambda: self.beat}[index[0]]()
        if not -1000 <= value <= 1000:
            raise Stop("index")
        return value

    def cell(self, variables, integers, name, index):
        at = 0 if index is None else self.integer(index, integers)
        if at not in range(len(variables[name])):
            raise Stop("index")
        return variables[name][at]

    def number(self, expression, variables, integers):
        if expression[0] == "number":
            return expression[1], 0
        if expression[0] == "place":
            return tuple(self.cell(variables, integers, *expression[1:]))
        parts = expression[1:]
        # Operations are evaluated first, then all else; both from left to right.
        order = sorted(range(2), key=lambda k: parts[k][0] in ("number", "place"))
        found = {k: self.number(parts[k], variables, integers) for k in order}
        pair = self.operation(expression[0], *found[0], *found[1])
        self.operations += 1
        return pair

    def operation(self, op, a, b, c, d):
        if op == "add":
            return (a + c) % PRIME, (b + d) % PRIME
        if op == "sub":
            return (a - c) % PRIME, (b - d) % PRIME
        if op == "mul":
            return a * c % PRIME, (a * d + b * c) % PRIME
        if c == 0:
            raise Stop("zero")
        # (a / c)' = (b * c - a * d) / (c * c), by Fermat's inverse.
        return a * pow(c, PRIME - 2, PRIME) % PRIME, (b * c - a * d) * pow(c * c, PRIME - 2, PRIME) % PRIME


def variables_of(tree, params, state, param_slopes, slopes):
    """The variables of a beat with their cells."""
    variables = {}
    for declared, row, its_slopes in ((tree[0], state, slopes), (tree[1], params, param_slopes)):
        pairs = [[value % PRIME, slope % PRIME] for value, slope in zip(row, its_slopes)]
        for name, size in declared:
            count = max(size, 1)
            variables[name], pairs = pairs[:count], pairs[count:]
    return variables


def row_of(tree, variables, at):
    return tuple(cell[at] for name, _ in tree[0] for cell in variables[name])


def oracle_beat(tree, params, state, beat, fuel=300):
    """What run_beat returns."""
    variables = variables_of(tree, params, state, [0] * len(params), [0] * len(state))
    oracle = Oracle(tree, fuel)
    fault = oracle.run_beat(variables, beat)
    last = row_of(tree, variables, 0) if fault is None else ()
    return fault, last, oracle.ticks, oracle.operations, oracle.assignments


def oracle_run(tree, params, state, param_slopes, slopes, beats, fuel=300):
    """What dual_run returns."""
    variables = variables_of(tree, params, state, param_slopes, slopes)
    oracle = Oracle(tree, fuel)
    for beat in range(beats):
        fault = oracle.run_beat(variables, beat)
        if fault is not None:
            return (fault, beat), (), ()
    return None, row_of(tree, variables, 0), row_of(tree, variables, 1)


class TapeOracle(Oracle):
    """A second meaning of tape programs: each cell is a list [value, bar]."""

    def __init__(self, program, fuel, tape):
        super().__init__(program, fuel)
        self.tape = list(tape)

    def number(self, expression, variables, integers):
        if expression[0] == "number":
            return expression[1]
        if expression[0] in ("place", "bar"):
            return self.cell(variables, integers, *expression[1:])[expression[0] == "bar"]
        parts = expression[1:]
        order = {"bar": 0, "number": 2, "place": 2}
        found = {k: self.number(parts[k], variables, integers) for k in sorted(range(2), key=lambda k: order.get(parts[k][0], 1))}
        number = self.operation(expression[0], found[0], 0, found[1], 0)[0]
        self.operations += 1
        return number

    def test(self, test, variables, integers):
        if test[0] == "zero":
            return self.number(test[1], variables, integers) == 0
        return super().test(test, variables, integers)

    def changed(self, variables, integers, place):
        """The cell of a place, and which of its two items the place means."""
        if len(place) == 3:
            return self.cell(variables, integers, *place[1:]), 1
        return self.cell(variables, integers, *place), 0

    def taken(self):
        if self.tape == []:
            raise Stop("tape")
        return self.tape.pop()

    def set_statement(self, variables, integers, place, expression):
        number = self.number(expression, variables, integers)
        cell, item = self.changed(variables, integers, place)
        if item == 0:
            self.tick()
        cell[item] = number

    def let_statement(self, variables, integers, name, expression, body):
        number = self.number(expression, variables, integers)
        self.body(body, {**variables, name: [[number, 0]]}, integers)

    def push_statement(self, variables, integers, expression):
        self.tape += [self.number(expression, variables, integers)]

    def pop_statement(self, variables, integers, place):
        cell, item = self.changed(variables, integers, place)
        cell[item] = self.taken()

    def mark_statement(self, variables, integers, test):
        self.tape += [int(self.test(test, variables, integers))]

    def ifmark_statement(self, variables, integers, first, second):
        self.body(second if self.taken() == 0 else first, variables, integers)

    def down_statement(self, variables, integers, name, index, body):
        k = self.integer(index, integers)
        while k > 0:
            k -= 1
            self.tick()
            self.body(body, variables, {**integers, name: k})


def sweep(program, body, params, state, tape, bars, beat, fuel):
    """Execute a body of a tape program; return the fault, the oracle and the variables."""
    variables = variables_of(program, params, state, [0] * len(params), bars)
    oracle = TapeOracle(program[:3] + (body,), fuel, [number % PRIME for number in tape])
    return oracle.run_beat(variables, beat), oracle, variables


def oracle_forward(program, params, state, beat, fuel=300):
    """What forward returns for the tree of this tape program."""
    fault, oracle, variables = sweep(program, program[3], params, state, (), [0] * len(state), beat, fuel)
    counts = oracle.operations, oracle.ticks
    return (fault, (), ()) + counts if fault else (None, row_of(program, variables, 0), tuple(oracle.tape)) + counts


def oracle_reverse(program, params, state, tape, bars, beat, fuel=300):
    """What reverse returns for the tree of this tape program."""
    fault, oracle, variables = sweep(program, program[4], params, state, tape, bars, beat, fuel)
    counts = oracle.operations, oracle.ticks
    if fault is None and oracle.tape:
        fault = "tape"
    if fault:
        return (fault, (), (), ()) + counts
    param_bars = tuple(cell[1] for name, _ in program[1] for cell in variables[name])
    return (None, row_of(program, variables, 0), row_of(program, variables, 1), param_bars) + counts
