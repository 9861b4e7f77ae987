"""The arguments and the results of sweeps, whatever machine executes them."""

from countermarch.arguments import check_beat, read_memory, read_numbers, read_row
from countermarch.checking import cells


def read_forward(tree, params, state, beat):
    """Return the memory for a forward sweep, from its arguments."""
    memory = read_memory(tree, params, state)
    check_beat(beat)
    return memory


def read_reverse(tree, params, state, tape, bars, beat):
    """Return the memory, the tape and the bars for a reverse sweep, from its arguments."""
    memory = read_memory(tree, params, state)
    tape_numbers = read_numbers(tape, "tape")
    bar_numbers = read_row(bars, cells(tree[0]), "bars")
    check_beat(beat)
    return memory, tape_numbers, bar_numbers + no_bars(tree[1])


def no_bars(declarations):
    """Return the bars 0 for the cells of the variables that are declared."""
    return [0] * cells(declarations)


def forward_result(tree, machine, fault):
    """Return (fault, state, tape, operations, ticks) of a forward sweep that has ended."""
    if fault is not None:
        return fault, (), (), machine.operations, machine.ticks
    last = tuple(machine.memory[:cells(tree[0])])
    return None, last, tuple(machine.tape), machine.operations, machine.ticks


def reverse_result(tree, machine, fault):
    """Return (fault, state, bars, param_bars, operations, ticks) of a reverse sweep that has ended."""
    if fault is None and machine.tape:
        fault = "tape"
    if fault is not None:
        return fault, (), (), (), machine.operations, machine.ticks
    first_param = cells(tree[0])
    end = first_param + cells(tree[1])
    state, bars = tuple(machine.memory[:first_param]), tuple(machine.bars[:first_param])
    return None, state, bars, tuple(machine.bars[first_param:end]), machine.operations, machine.ticks
