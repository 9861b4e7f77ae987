"""The field with PRIME elements: numbers, dual numbers and rows of numbers."""

from countermarch.errors import FieldError
from countermarch.limits import PRIME


def reduce_number(n):
    """Return the number that differs from the integer n by a multiple of PRIME."""
    return n % PRIME


def inverse(number):
    """Return the number whose product with the given one is 1."""
    rest = reduce_number(number)
    if rest == 0:
        raise FieldError()
    last_rest, last_factor, factor = PRIME, 0, 1
    # Euclid's algorithm reaches the rest 1, because PRIME is a prime, and keeps
    # every rest equal to its factor times the number, modulo PRIME.
    while rest != 1:
        times = last_rest // rest
        last_rest, rest = rest, last_rest - times * rest
        last_factor, factor = factor, last_factor - times * factor
    return reduce_number(factor)


def combine(op, first, second):
    """Return what the operation makes of two numbers."""
    if op == "add":
        return reduce_number(first + second)
    if op == "sub":
        return reduce_number(first - second)
    if op == "mul":
        return reduce_number(first * second)
    return reduce_number(first * inverse(second))


def combine_duals(op, first, second):
    """Return what the operation makes of two pairs (value, slope)."""
    a, b = first
    c, d = second
    value = combine(op, a, c)
    if op == "add":
        slope = b + d
    elif op == "sub":
        slope = b - d
    elif op == "mul":
        slope = a * d + b * c
    else:
        slope = (b - value * d) * inverse(c)
    return value, reduce_number(slope)


def shares(op, first, second, result, bar):
    """Return the numbers that an operation adds to the bars of its two operands."""
    if op == "add":
        left, right = bar, bar
    elif op == "sub":
        left, right = bar, -bar
    elif op == "mul":
        left, right = bar * second, bar * first
    else:
        left = combine("div", bar, second)
        right = -left * result
    return reduce_number(left), reduce_number(right)


def dot(first, second):
    """Return the sum of the products of two rows, number by number."""
    return reduce_number(sum([a * b for a, b in zip(first, second)]))


def basis(size, place):
    """Return the row of zeros with a 1 at the index `place`."""
    return tuple([1 if at == place else 0 for at in range(size)])
