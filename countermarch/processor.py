"""The machine that executes code, and the sweeps that it runs."""

from countermarch.checking import cells, layout
from countermarch.instructions import CodeFrame, execute_next
from countermarch.limits import MAX_FUEL
from countermarch.machine import Fault
from countermarch.results import forward_result, no_bars, reverse_result


class CodeMachine:
    """A machine for well-formed code.

    The memory and the bars have an item for each cell: first the state, then
    the parameters, then the local scalars.
    """

    def __init__(self, code, tree, memory, bars, tape, fuel):
        state, params, procedures, _ = tree
        self.code = code
        self.memory = memory
        self.bars = bars
        self.tape = tape
        self.fuel = max(0, min(fuel, MAX_FUEL))
        self.first_param = cells(state)
        self.end_of_params = cells(state + params)
        self.places = [(first, size) for _, first, size in layout(state + params)]
        self.params = self.places[len(state):]
        self.sizes = [[size for _, size in references] for _, _, references, _ in procedures]
        self.integers = []
        self.numbers = []
        self.frames = []
        self.beat = self.ticks = self.operations = 0

    def run_body(self, number, beat):
        """Execute a body of the beat's; return its fault or None."""
        self.beat = beat
        self.enter(number, [], self.places)
        try:
            while self.frames:
                execute_next(self)
        except Fault as fault:
            return fault.text
        return None

    def enter(self, number, integers, variables):
        """Begin a frame of a body, with these integers and variables."""
        instructions = self.code[number][2]
        self.frames.append(CodeFrame(instructions, dict(enumerate(integers)), dict(enumerate(variables))))

    def spend_tick(self):
        """Spend a tick of the beat's fuel."""
        if self.ticks == self.fuel:
            raise Fault("fuel")
        self.ticks += 1

    def take_number(self):
        """Remove the last number of the tape and return it."""
        if not self.tape:
            raise Fault("tape")
        return self.tape.pop()

    def change(self, cell, number):
        """Assign a number to a cell, unless it is a parameter's."""
        if self.first_param <= cell < self.end_of_params:
            raise Fault("stuck")
        self.memory[cell] = number


def sweep_forward(code, tree, memory, beat, fuel):
    """Return what run_forward does, for arguments that are right; the memory is changed."""
    machine = CodeMachine(code, tree, memory, no_bars(tree[0] + tree[1]), [], fuel)
    return forward_result(tree, machine, machine.run_body(len(code) - 2, beat))


def sweep_reverse(code, tree, memory, tape, bars, beat, fuel):
    """Return what run_reverse does, for arguments that are right.

    The bars are those of the state and of the parameters. The memory, the tape
    and the bars are changed.
    """
    machine = CodeMachine(code, tree, memory, bars, tape, fuel)
    return reverse_result(tree, machine, machine.run_body(len(code) - 1, beat))
