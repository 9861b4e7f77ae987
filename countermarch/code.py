"""Code: the compiled sweeps of a beat."""

from countermarch.adjoint import make_adjoint
from countermarch.checking import check
from countermarch.errors import CodeError
from countermarch.limits import MAX_FUEL
from countermarch.processor import sweep_forward, sweep_reverse
from countermarch.results import read_forward, read_reverse
from countermarch.translation import translate_tape
from countermarch.wellformed import is_well_formed


def translate(tree):
    """Return the code of a program."""
    _, _, tape = make_adjoint(tree)
    return translate_tape(tape)


def check_code(code, tree):
    """Return None if the code is well formed for the program."""
    check(tree)
    if not is_well_formed(code, tree):
        raise CodeError()


def run_forward(code, tree, params, state, *, beat, fuel=MAX_FUEL):
    """Return (fault, state, tape, operations, ticks) of a beat's forward sweep."""
    check_code(code, tree)
    memory = read_forward(tree, params, state, beat)
    return sweep_forward(code, tree, memory, beat, fuel)


def run_reverse(code, tree, params, state, tape, bars, *, beat, fuel=MAX_FUEL):
    """Return (fault, state, bars, param_bars, operations, ticks) of a beat's reverse sweep."""
    check_code(code, tree)
    memory, tape_numbers, bar_numbers = read_reverse(tree, params, state, tape, bars, beat)
    return sweep_reverse(code, tree, memory, tape_numbers, bar_numbers, beat, fuel)
