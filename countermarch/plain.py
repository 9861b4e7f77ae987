"""The plain meaning of programs: beats and runs over numbers and over dual numbers."""

from countermarch.arguments import check_beats, read_row
from countermarch.checking import cells, check
from countermarch.limits import MAX_BEATS, MAX_FUEL
from countermarch.machine import DualMachine, Machine


def run_beat(tree, params, state, *, beat, fuel=MAX_FUEL):
    """Return (fault, state, ticks, operations, assignments) of one beat."""
    check(tree)
    memory = read_memory(tree, params, state, "params", "state")
    check_beats(beat, MAX_BEATS - 1)
    machine = Machine(tree, memory, fuel)
    fault = machine.run_beat(beat)
    last = () if fault is not None else state_cells(tree, machine)
    return fault, last, machine.ticks, machine.operations, machine.assignments


def run(tree, params, state, *, beats, fuel=MAX_FUEL):
    """Return (fault, state) of a run of this many beats."""
    check(tree)
    memory = read_memory(tree, params, state, "params", "state")
    check_beats(beats, MAX_BEATS)
    return run_beats(tree, Machine(tree, memory, fuel), beats)


def dual_run(tree, params, state, param_slopes, slopes, *, beats, fuel=MAX_FUEL):
    """Return (fault, state, slopes) of a run over dual numbers."""
    check(tree)
    memory = read_memory(tree, params, state, "params", "state")
    directions = read_memory(tree, param_slopes, slopes, "param_slopes", "slopes")
    check_beats(beats, MAX_BEATS)
    machine = DualMachine(tree, list(zip(memory, directions)), fuel)
    fault, pairs = run_beats(tree, machine, beats)
    return fault, tuple([value for value, _ in pairs]), tuple([slope for _, slope in pairs])


def read_memory(tree, params, state, params_reason, state_reason):
    """Return the numbers of the state's cells, followed by those of the parameters'."""
    param_numbers = read_row(params, cells(tree[1]), params_reason)
    return read_row(state, cells(tree[0]), state_reason) + param_numbers


def run_beats(tree, machine, beats):
    """Return the fault of a run, a pair or None, and what the state's cells hold at its end."""
    for beat in range(beats):
        fault = machine.run_beat(beat)
        if fault is not None:
            return (fault, beat), ()
    return None, state_cells(tree, machine)


def state_cells(tree, machine):
    """Return what the cells of the state hold."""
    return tuple(machine.memory[:cells(tree[0])])
