"""The plain meaning of programs: beats and runs over numbers and over dual numbers."""

from countermarch.arguments import check_beat, check_beats, read_memory
from countermarch.checking import cells, check
from countermarch.limits import MAX_FUEL
from countermarch.machine import DualMachine, Machine


def run_beat(tree, params, state, *, beat, fuel=MAX_FUEL):
    """Return (fault, state, ticks, operations, assignments) of one beat."""
    check(tree)
    memory = read_memory(tree, params, state)
    check_beat(beat)
    machine = Machine(tree, memory, fuel)
    fault = machine.run_beat(beat)
    last = () if fault is not None else state_cells(tree, machine)
    return fault, last, machine.ticks, machine.operations, machine.assignments


def run(tree, params, state, *, beats, fuel=MAX_FUEL):
    """Return (fault, state) of a run of this many beats."""
    check(tree)
    memory = read_memory(tree, params, state)
    check_beats(beats)
    return run_beats(tree, Machine(tree, memory, fuel), 0, beats)


def dual_run(tree, params, state, param_slopes, slopes, *, beats, fuel=MAX_FUEL):
    """Return (fault, state, slopes) of a run over dual numbers."""
    check(tree)
    memory = read_memory(tree, params, state)
    directions = read_memory(tree, param_slopes, slopes, "param_slopes", "slopes")
    check_beats(beats)
    return run_duals(tree, memory, directions, beats, fuel)


def run_duals(tree, memory, directions, beats, fuel):
    """Return what dual_run does; the slopes of all cells are in the order of the memory."""
    machine = DualMachine(tree, list(zip(memory, directions)), fuel)
    fault, pairs = run_beats(tree, machine, 0, beats)
    return fault, tuple([value for value, _ in pairs]), tuple([slope for _, slope in pairs])


def run_beats(tree, machine, first, end):
    """Execute the beats from the first up to the end, which is not executed any more.

    Return the fault of the run, a pair or None, and what the state's cells hold at its end.
    """
    for beat in range(first, end):
        fault = machine.run_beat(beat)
        if fault is not None:
            return (fault, beat), ()
    return None, state_cells(tree, machine)


def state_cells(tree, machine):
    """Return what the cells of the state hold."""
    return tuple(machine.memory[:cells(tree[0])])
