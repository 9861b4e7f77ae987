"""The instructions of code: what each of them does to the machine that executes it."""

from countermarch.errors import FieldError
from countermarch.field import combine, reduce_number
from countermarch.limits import MAX_CALLS, MAX_INTEGER
from countermarch.machine import Fault, combine_integers

# A scalar that has no cell.
NO_CELL = (None, 0)


class CodeFrame:
    """A call of a body: the registers that are not 0, and the first cells and sizes of its variables."""

    def __init__(self, instructions, registers, variables):
        self.instructions = instructions
        self.registers = registers
        self.variables = variables
        self.at = 0


def take_operand(stack):
    """Remove the operand on the top of a stack and return it."""
    if not stack:
        raise Fault("stuck")
    return stack.pop()


def take_operands(stack, count):
    """Remove the last operands of a stack; return them in the order in which they were pushed."""
    first = len(stack) - count
    if first < 0:
        raise Fault("stuck")
    operands = stack[first:]
    del stack[first:]
    return operands


def take_cell(machine, frame, instruction):
    """Return the cell that an access means, and take its index if it has one."""
    _, variable, indexed = instruction
    at = take_operand(machine.integers) if indexed else 0
    first, size = frame.variables.get(variable, NO_CELL)
    if first is None or indexed != (size > 0):
        raise Fault("stuck")
    if indexed and not 0 <= at < size:
        raise Fault("index")
    return first + at


def push_integer(machine, frame, instruction):
    """Push an integer."""
    machine.integers.append(instruction[1])


def push_register(machine, frame, instruction):
    """Push the integer of a register."""
    machine.integers.append(frame.registers.get(instruction[1], 0))


def push_beat(machine, frame, instruction):
    """Push the number of the beat."""
    machine.integers.append(machine.beat)


def push_combined(machine, frame, instruction):
    """Push the sum, the difference or the product of two integers."""
    left, right = take_operands(machine.integers, 2)
    value = combine_integers(instruction[0], left, right)
    if abs(value) > MAX_INTEGER:
        raise Fault("index")
    machine.integers.append(value)


def push_remainder(machine, frame, instruction):
    """Push the remainder of an integer."""
    machine.integers.append(take_operand(machine.integers) % instruction[1])


def assign_register(machine, frame, instruction):
    """Take an integer into a register."""
    frame.registers[instruction[1]] = take_operand(machine.integers)


def push_less(machine, frame, instruction):
    """Push whether an integer is less than another one."""
    left, right = take_operands(machine.integers, 2)
    machine.integers.append(1 if left < right else 0)


def push_equal(machine, frame, instruction):
    """Push whether two integers are equal."""
    left, right = take_operands(machine.integers, 2)
    machine.integers.append(1 if left == right else 0)


def push_zero(machine, frame, instruction):
    """Push whether a number is 0."""
    machine.integers.append(1 if take_operand(machine.numbers) == 0 else 0)


def push_not(machine, frame, instruction):
    """Push whether an integer is 0."""
    machine.integers.append(1 if take_operand(machine.integers) == 0 else 0)


def push_number(machine, frame, instruction):
    """Push a number."""
    machine.numbers.append(instruction[1])


def load_value(machine, frame, instruction):
    """Push the value of a cell."""
    machine.numbers.append(machine.memory[take_cell(machine, frame, instruction)])


def load_bar(machine, frame, instruction):
    """Push the bar of a cell."""
    machine.numbers.append(machine.bars[take_cell(machine, frame, instruction)])


def store_value(machine, frame, instruction):
    """Take a number into the value of a cell."""
    number = take_operand(machine.numbers)
    cell = take_cell(machine, frame, instruction)
    machine.change(cell, number)


def store_bar(machine, frame, instruction):
    """Take a number into the bar of a cell."""
    number = take_operand(machine.numbers)
    cell = take_cell(machine, frame, instruction)
    machine.bars[cell] = number


def push_result(machine, frame, instruction):
    """Push what an operation makes of two numbers, and count it."""
    left, right = take_operands(machine.numbers, 2)
    try:
        result = combine(instruction[0], left, right)
    except FieldError:
        raise Fault("zero") from None
    machine.operations += 1
    machine.numbers.append(result)


def push_to_tape(machine, frame, instruction):
    """Take a number to the tape."""
    machine.tape.append(take_operand(machine.numbers))


def pop_from_tape(machine, frame, instruction):
    """Take the last number of the tape into the value of a cell."""
    cell = take_cell(machine, frame, instruction)
    machine.change(cell, machine.take_number())


def mark_tape(machine, frame, instruction):
    """Take an integer to the tape, as a number."""
    machine.tape.append(reduce_number(take_operand(machine.integers)))


def unmark_tape(machine, frame, instruction):
    """Push the last number of the tape, as an integer."""
    machine.integers.append(machine.take_number())


def spend_tick(machine, frame, instruction):
    """Spend a tick of the beat's fuel."""
    machine.spend_tick()


def branch_to(machine, frame, instruction):
    """Continue at an instruction if an integer is 0."""
    if take_operand(machine.integers) == 0:
        frame.at = instruction[1]


def jump_to(machine, frame, instruction):
    """Continue at an instruction."""
    frame.at = instruction[1]


def call_body(machine, frame, instruction):
    """Begin a new frame, with integers and variables that are handed over."""
    _, number, count, names = instruction
    integers = take_operands(machine.integers, count)
    if len(machine.frames) > MAX_CALLS:
        raise Fault("calls")
    handed = [frame.variables.get(variable, NO_CELL) for variable in names]
    if [size for _, size in handed] != machine.sizes[number // 2]:
        raise Fault("stuck")
    machine.enter(number, integers, handed + machine.params)


def end_frame(machine, frame, instruction):
    """End the frame."""
    machine.frames.pop()


def open_local(machine, frame, instruction):
    """Give a local scalar a new cell."""
    number = take_operand(machine.numbers)
    frame.variables[instruction[1]] = (len(machine.memory), 0)
    machine.memory.append(number)
    machine.bars.append(0)


def close_local(machine, frame, instruction):
    """Take the cell from a local scalar."""
    frame.variables[instruction[1]] = NO_CELL


STEPS = {
    "integer": push_integer, "register": push_register, "beat": push_beat,
    "plus": push_combined, "minus": push_combined, "times": push_combined, "rem": push_remainder,
    "assign": assign_register,
    "less": push_less, "equal": push_equal, "zero": push_zero, "not": push_not,
    "number": push_number,
    "load": load_value, "load_bar": load_bar, "store": store_value, "store_bar": store_bar,
    "add": push_result, "sub": push_result, "mul": push_result, "div": push_result,
    "push": push_to_tape, "pop": pop_from_tape, "mark": mark_tape, "unmark": unmark_tape,
    "tick": spend_tick, "branch": branch_to, "jump": jump_to,
    "call": call_body, "return": end_frame, "open": open_local, "close": close_local,
}


def execute_next(machine):
    """Execute the next instruction of the last frame."""
    frame = machine.frames[-1]
    instruction = frame.instructions[frame.at]
    frame.at += 1
    step = STEPS[instruction[0]]
    step(machine, frame, instruction)
