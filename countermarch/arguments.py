"""Checking and reading the arguments that several functions take."""

from countermarch.errors import ArgumentError
from countermarch.field import reduce_number
from countermarch.values import is_between, is_integer


def read_row(row, count, reason):
    """Return the list of the numbers that a row of this many integers stands for."""
    if not isinstance(row, (tuple, list)) or len(row) != count:
        raise ArgumentError(reason)
    if not all([is_integer(item) for item in row]):
        raise ArgumentError(reason)
    return [reduce_number(item) for item in row]


def check_beats(beats, most):
    """Refuse a number that is no integer from 0 to the most."""
    if not is_between(beats, 0, most):
        raise ArgumentError("beats")
