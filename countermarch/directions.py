"""Derivatives along directions, by runs over dual numbers."""

from countermarch.checking import cells
from countermarch.field import basis, dot
from countermarch.plain import run_duals


def unit_directions(tree):
    """Return the directions with a single 1, each a row for the state's cells and then the parameters'."""
    size = cells(tree[0] + tree[1])
    return [basis(size, place) for place in range(size)]


def split_row(tree, row):
    """Return the part of a row that is the state's, and the part that is the parameters'."""
    first_param = cells(tree[0])
    return tuple(row[:first_param]), tuple(row[first_param:])


def slope_along(tree, memory, weights, direction, beats, fuel):
    """Return (fault, slope), the derivative of the loss along a direction, which is a row."""
    fault, _, slopes = run_duals(tree, memory, direction, beats, fuel)
    return fault, dot(weights, slopes)
