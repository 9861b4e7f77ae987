"""The sweeps of a beat: its tape program, executed forward and in reverse."""

from countermarch.checking import check
from countermarch.limits import MAX_FUEL
from countermarch.adjoint import transform
from countermarch.results import forward_result, no_bars, read_forward, read_reverse, reverse_result
from countermarch.simple import simplify
from countermarch.tapes import TapeMachine


def forward(tree, params, state, *, beat, fuel=MAX_FUEL):
    """Return (fault, state, tape, operations, ticks) of a beat's forward sweep."""
    check(tree)
    memory = read_forward(tree, params, state, beat)
    program = transform(simplify(tree))
    machine = TapeMachine(program, program[3], memory, no_bars(tree[0] + tree[1]), [], fuel)
    return forward_result(tree, machine, machine.run_beat(beat))


def reverse(tree, params, state, tape, bars, *, beat, fuel=MAX_FUEL):
    """Return (fault, state, bars, param_bars, operations, ticks) of a beat's reverse sweep."""
    check(tree)
    memory, tape_numbers, bar_numbers = read_reverse(tree, params, state, tape, bars, beat)
    program = transform(simplify(tree))
    machine = TapeMachine(program, program[4], memory, bar_numbers, tape_numbers, fuel)
    return reverse_result(tree, machine, machine.run_beat(beat))
