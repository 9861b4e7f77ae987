"""Machines that execute the beats of a program."""

from countermarch.checking import layout
from countermarch.errors import FieldError
from countermarch.field import combine, combine_duals
from countermarch.limits import MAX_CALLS, MAX_FUEL, MAX_INTEGER

# The turns of the operands that are no operations; only tape programs have bars.
TURNS = {"bar": 0, "number": 2, "place": 2}


class Fault(Exception):
    """The end of a run at something that a program must not do; it stays inside of the package."""

    def __init__(self, text):
        super().__init__(text)
        self.text = text


class Frame:
    """What a body sees: the first cells and sizes of its variables, and its integers."""

    def __init__(self, variables, integers):
        self.variables = variables
        self.integers = integers


class Machine:
    """A machine over numbers.

    The memory consists of the cells of the state, those of the parameters, and
    those of the local scalars, the innermost one last.
    """

    def __init__(self, tree, memory, fuel):
        state, params, procedures, beat = tree
        self.body = beat
        self.memory = memory
        self.fuel = max(0, min(fuel, MAX_FUEL))
        places = {name: (first, size) for name, first, size in layout(state + params)}
        self.frame = Frame(places, {})
        self.params = {name: places[name] for name, _ in params}
        self.procedures = {procedure[0]: procedure for procedure in procedures}
        self.start(0)

    def start(self, beat):
        """Begin a beat with its whole fuel."""
        self.beat = beat
        self.ticks = 0
        self.operations = 0
        self.assignments = 0
        self.calls = 0

    def run_beat(self, beat):
        """Execute a beat; return its fault or None."""
        self.start(beat)
        try:
            self.execute(self.body, self.frame)
        except Fault as fault:
            return fault.text
        return None

    def execute(self, body, frame):
        """Execute the statements of a body in order."""
        for statement in body:
            head = statement[0]
            if head == "set":
                self.execute_set(statement, frame)
            elif head == "loop":
                self.execute_loop(statement, frame)
            elif head == "if":
                _, test, first, second = statement
                self.execute(first if self.holds(test, frame) else second, frame)
            elif head == "call":
                self.execute_call(statement, frame)
            elif head == "let":
                self.execute_let(statement, frame)
            else:
                self.execute_tape_statement(statement, frame)

    def execute_tape_statement(self, statement, frame):
        """Execute a statement that only tape programs have: a machine for these does."""

    def execute_set(self, statement, frame):
        """Assign a number to a cell."""
        _, (name, index), expression = statement
        number = self.evaluate(expression, frame)
        cell = self.find_cell(name, index, frame)
        self.spend_tick()
        self.assignments += 1
        self.memory[cell] = number

    def execute_loop(self, statement, frame):
        """Execute a body once for each integer below the value of the index."""
        _, name, index, body = statement
        for integer in range(self.evaluate_index(index, frame)):
            self.spend_tick()
            frame.integers[name] = integer
            self.execute(body, frame)

    def execute_call(self, statement, frame):
        """Execute the body of a procedure on cells of the caller."""
        _, name, indexes, handed = statement
        integers = [self.evaluate_index(index, frame) for index in indexes]
        self.spend_tick()
        if self.calls == MAX_CALLS:
            raise Fault("calls")
        _, names, references, body = self.procedures[name]
        variables = dict(self.params)
        for (reference, _), variable in zip(references, handed):
            variables[reference] = frame.variables[variable]
        self.calls += 1
        self.execute(body, Frame(variables, dict(zip(names, integers))))
        self.calls -= 1

    def execute_let(self, statement, frame):
        """Execute a body with a new scalar, which is gone afterwards."""
        _, name, expression, body = statement
        number = self.evaluate(expression, frame)
        self.assignments += 1
        frame.variables[name] = (len(self.memory), 0)
        self.add_cell(number)
        self.execute(body, frame)
        self.drop_cell()

    def add_cell(self, number):
        """Make a new cell, which holds this number."""
        self.memory.append(number)

    def drop_cell(self):
        """Drop the last cell."""
        self.memory.pop()

    def spend_tick(self):
        """Spend a tick of the beat's fuel."""
        if self.ticks == self.fuel:
            raise Fault("fuel")
        self.ticks += 1

    def holds(self, test, frame):
        """Tell whether a test is true."""
        head = test[0]
        if head == "not":
            return not self.holds(test[1], frame)
        if head == "zero":
            return self.is_zero(self.evaluate(test[1], frame))
        left = self.evaluate_index(test[1], frame)
        right = self.evaluate_index(test[2], frame)
        return left < right if head == "less" else left == right

    def evaluate_index(self, index, frame):
        """Return the integer that an index expression has."""
        head = index[0]
        if head == "integer":
            return index[1]
        if head == "index":
            return frame.integers[index[1]]
        if head == "beat":
            return self.beat
        left = self.evaluate_index(index[1], frame)
        if head == "rem":
            return left % index[2]
        value = combine_integers(head, left, self.evaluate_index(index[2], frame))
        if abs(value) > MAX_INTEGER:
            raise Fault("index")
        return value

    def find_cell(self, name, index, frame):
        """Return the cell of a scalar, or that of an array at an index."""
        first, size = frame.variables[name]
        if index is None:
            return first
        at = self.evaluate_index(index, frame)
        if not 0 <= at < size:
            raise Fault("index")
        return first + at

    def evaluate(self, expression, frame):
        """Return the number that an expression has."""
        head = expression[0]
        if head == "number":
            return self.constant(expression[1])
        if head == "place":
            return self.memory[self.find_cell(expression[1], expression[2], frame)]
        left, right = self.evaluate_operands(expression[1], expression[2], frame)
        try:
            result = self.operate(head, left, right)
        except FieldError:
            raise Fault("zero") from None
        self.operations += 1
        return result

    def evaluate_operands(self, left, right, frame):
        """Return the numbers of two operands, in the order of their turns."""
        if turn_of(right) < turn_of(left):
            second = self.evaluate(right, frame)
            return self.evaluate(left, frame), second
        first = self.evaluate(left, frame)
        return first, self.evaluate(right, frame)

    def constant(self, number):
        """Return what stands in a cell for a number of the program."""
        return number

    def operate(self, op, left, right):
        """Return what an operation makes of the contents of two cells."""
        return combine(op, left, right)

    def is_zero(self, number):
        """Tell whether the content of a cell is 0."""
        return number == 0


class DualMachine(Machine):
    """A machine over dual numbers: each cell holds a pair (value, slope)."""

    def constant(self, number):
        """Return the pair of a number of the program."""
        return number, 0

    def operate(self, op, left, right):
        """Return what an operation makes of two pairs."""
        return combine_duals(op, left, right)

    def is_zero(self, number):
        """Tell whether the value of a pair is 0."""
        return number[0] == 0


def turn_of(operand):
    """Return at which turn an operand is evaluated: bars first, operations next, then all else."""
    return TURNS.get(operand[0], 1)


def combine_integers(op, left, right):
    """Return the sum, the difference or the product of two integers."""
    if op == "plus":
        return left + right
    if op == "minus":
        return left - right
    return left * right
