"""Checking and reading the arguments that several functions take."""

from countermarch.checking import cells
from countermarch.errors import ArgumentError
from countermarch.field import reduce_number
from countermarch.limits import MAX_BEATS
from countermarch.values import is_between, is_integer


def read_numbers(row, reason):
    """Return the list of the numbers that a row of integers, of any length, stands for."""
    if not isinstance(row, (tuple, list)) or not all([is_integer(item) for item in row]):
        raise ArgumentError(reason)
    return [reduce_number(item) for item in row]


def read_row(row, count, reason):
    """Return the list of the numbers that a row of this many integers stands for."""
    numbers = read_numbers(row, reason)
    if len(numbers) != count:
        raise ArgumentError(reason)
    return numbers


def read_memory(tree, params, state, params_reason="params", state_reason="state"):
    """Return the numbers of the state's cells, followed by those of the parameters'."""
    param_numbers = read_row(params, cells(tree[1]), params_reason)
    return read_row(state, cells(tree[0]), state_reason) + param_numbers


def read_run(tree, params, state, weights, beats):
    """Return the memory and the weights for a run of this many beats, from its arguments."""
    memory = read_memory(tree, params, state)
    numbers = read_row(weights, cells(tree[0]), "weights")
    check_beats(beats)
    return memory, numbers


def check_beats(beats):
    """Refuse a number of beats that is no integer from 0 to MAX_BEATS."""
    if not is_between(beats, 0, MAX_BEATS):
        raise ArgumentError("beats")


def check_beat(beat):
    """Refuse the number of a beat that is no integer from 0 to MAX_BEATS - 1."""
    if not is_between(beat, 0, MAX_BEATS - 1):
        raise ArgumentError("beats")
