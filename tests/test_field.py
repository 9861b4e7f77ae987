"""Points 16 to 22: the field."""

import copy
import unittest

from countermarch.errors import FieldError
from countermarch.field import (
    basis,
    combine,
    combine_duals,
    dot,
    inverse,
    reduce_number,
    shares,
)
from countermarch.limits import PRIME

OPERATIONS = ("add", "sub", "mul", "div")
LAST = PRIME - 1
NUMBERS = (0, 1, 2, 3, 5, 46341, 65536, 123456789, PRIME // 2, PRIME // 2 + 1, PRIME - 2, LAST)
FEW = (0, 1, 2, 70000, LAST)
FAR = 10 ** 40 + 7


def is_number(value):
    return type(value) is int and 0 <= value < PRIME


class FieldCase(unittest.TestCase):
    def assert_number(self, value, integer):
        """The value is the number of the field that the integer stands for."""
        self.assertTrue(is_number(value), value)
        self.assertEqual((value - integer) % PRIME, 0, (value, integer))

    def assert_pair(self, pair, first, second):
        self.assertIs(type(pair), tuple)
        self.assertEqual(len(pair), 2)
        self.assert_number(pair[0], first)
        self.assert_number(pair[1], second)


class TestReduceNumber(FieldCase):
    """Point 17."""

    def test_integers_of_any_size_and_sign(self):
        integers = [0, PRIME, 2 * PRIME, PRIME * PRIME, LAST, PRIME + 1, 2 * PRIME - 1]
        integers += [7, 2 ** 64, 2 ** 64 + 3, 2 ** 200 + 12345, FAR, PRIME ** 9 + 4]
        for integer in integers:
            for n in (integer, -integer):
                with self.subTest(n=n):
                    self.assert_number(reduce_number(n), n)

    def test_known_results(self):
        known = {0: 0, PRIME: 0, -PRIME: 0, LAST: LAST, PRIME + 1: 1, -1: LAST, 1: 1}
        known.update({2 ** 31: 1, 2 ** 64: 4, -(2 ** 64): PRIME - 4, 2 ** 310 + 5: 6})
        for n, number in known.items():
            with self.subTest(n=n):
                self.assertEqual(reduce_number(n), number)

    def test_numbers_stay_as_they_are(self):
        for number in NUMBERS:
            self.assertEqual(reduce_number(number), number)


class TestInverse(FieldCase):
    """Points 16 and 19."""

    def test_product_is_one(self):
        for number in NUMBERS[1:] + tuple(range(1, 300)) + tuple(range(PRIME - 300, PRIME)):
            found = inverse(number)
            self.assertTrue(is_number(found), found)
            self.assert_number(1, number * found)

    def test_known_inverses(self):
        self.assertEqual(inverse(1), 1)
        self.assertEqual(inverse(2), 1073741824)
        self.assertEqual(inverse(LAST), LAST)

    def test_inverse_of_the_inverse(self):
        for number in NUMBERS[1:]:
            self.assertEqual(inverse(inverse(number)), number)

    def test_zero_has_none(self):
        with self.assertRaises(FieldError):
            inverse(0)


class TestCombine(FieldCase):
    """Points 16 and 19."""

    def test_example(self):
        self.assertEqual(combine("sub", 3, 5), 2147483645)

    def test_sums_differences_and_products(self):
        for a in NUMBERS:
            for c in NUMBERS:
                with self.subTest(a=a, c=c):
                    self.assert_number(combine("add", a, c), a + c)
                    self.assert_number(combine("sub", a, c), a - c)
                    self.assert_number(combine("mul", a, c), a * c)

    def test_edges_of_the_range(self):
        self.assertEqual(combine("add", LAST, 1), 0)
        self.assertEqual(combine("add", LAST, LAST), PRIME - 2)
        self.assertEqual(combine("sub", 0, 1), LAST)
        self.assertEqual(combine("sub", 0, LAST), 1)
        self.assertEqual(combine("mul", LAST, LAST), 1)

    def test_quotient_times_divisor_is_dividend(self):
        for a in NUMBERS:
            for c in NUMBERS[1:]:
                with self.subTest(a=a, c=c):
                    self.assert_number(a, combine("div", a, c) * c)
                    self.assertTrue(is_number(combine("div", a, c)))

    def test_known_quotients(self):
        self.assertEqual(combine("div", 6, 3), 2)
        self.assertEqual(combine("div", 0, 3), 0)
        self.assertEqual(combine("div", 1, 2), 1073741824)
        self.assertEqual(combine("div", 5, LAST), PRIME - 5)

    def test_division_by_zero(self):
        for a in NUMBERS:
            with self.subTest(a=a), self.assertRaises(FieldError):
                combine("div", a, 0)

    def test_only_division_minds_a_zero(self):
        self.assertEqual(combine("add", 4, 0), 4)
        self.assertEqual(combine("sub", 4, 0), 4)
        self.assertEqual(combine("mul", 4, 0), 0)


class TestCombineDuals(FieldCase):
    """Points 18 and 19."""

    def test_example(self):
        self.assertEqual(combine_duals("mul", (3, 1), (5, 0)), (15, 5))

    def test_rules_of_add_sub_and_mul(self):
        for a, b, c, d in quadruples():
            with self.subTest(a=a, b=b, c=c, d=d):
                first, second = (a, b), (c, d)
                self.assert_pair(combine_duals("add", first, second), a + c, b + d)
                self.assert_pair(combine_duals("sub", first, second), a - c, b - d)
                self.assert_pair(combine_duals("mul", first, second), a * c, a * d + b * c)

    def test_rule_of_div(self):
        for a, b, c, d in quadruples():
            if c == 0:
                continue
            with self.subTest(a=a, b=b, c=c, d=d):
                q, slope = combine_duals("div", (a, b), (c, d))
                self.assert_pair((q, slope), combine("div", a, c), slope)
                self.assert_number(0, q * c - a)
                self.assert_number(0, slope * c - (b - q * d))

    def test_known_pairs(self):
        self.assertEqual(combine_duals("add", (LAST, 1), (1, LAST)), (0, 0))
        self.assertEqual(combine_duals("sub", (0, 0), (1, 1)), (LAST, LAST))
        self.assertEqual(combine_duals("mul", (2, 3), (5, 7)), (10, 29))
        self.assertEqual(combine_duals("div", (10, 29), (5, 7)), (2, 3))
        self.assertEqual(combine_duals("div", (6, 0), (3, 1)), (2, combine("div", PRIME - 2, 3)))

    def test_quotient_undoes_the_product(self):
        for a, b, c, d in quadruples():
            if c != 0:
                product = combine_duals("mul", (a, b), (c, d))
                self.assertEqual(combine_duals("div", product, (c, d)), (a, b))

    def test_value_depends_on_the_values_alone(self):
        for op in OPERATIONS:
            for a, b, c, d in quadruples():
                if op != "div" or c != 0:
                    self.assertEqual(combine_duals(op, (a, b), (c, d))[0], combine(op, a, c))

    def test_constants_have_the_slope_zero(self):
        for op in OPERATIONS:
            for a in FEW:
                self.assertEqual(combine_duals(op, (a, 0), (3, 0)), (combine(op, a, 3), 0))

    def test_slope_of_a_sum_of_slopes(self):
        for op in OPERATIONS:
            for a, b, c, d in quadruples(FEW[1:]):
                for more_b, more_d in ((0, 1), (1, 0), (LAST, 12345), (70000, LAST)):
                    whole = combine_duals(op, (a, b + more_b), (c, d + more_d))[1]
                    one = combine_duals(op, (a, b), (c, d))[1]
                    other = combine_duals(op, (a, more_b), (c, more_d))[1]
                    self.assert_number(whole, one + other)

    def test_slope_of_a_multiple_of_slopes(self):
        for op in OPERATIONS:
            for a, b, c, d in quadruples(FEW[1:]):
                for k in FEW:
                    slopes = reduce_number(k * b), reduce_number(k * d)
                    whole = combine_duals(op, (a, slopes[0]), (c, slopes[1]))[1]
                    self.assert_number(whole, k * combine_duals(op, (a, b), (c, d))[1])

    def test_division_by_a_pair_with_the_value_zero(self):
        for first in ((0, 0), (1, 0), (0, 1), (LAST, LAST)):
            for d in NUMBERS:
                with self.subTest(first=first, d=d), self.assertRaises(FieldError):
                    combine_duals("div", first, (0, d))

    def test_only_division_minds_a_value_zero(self):
        self.assertEqual(combine_duals("add", (4, 2), (0, 3)), (4, 5))
        self.assertEqual(combine_duals("sub", (4, 2), (0, 3)), (4, LAST))
        self.assertEqual(combine_duals("mul", (4, 2), (0, 3)), (0, 12))
        self.assertEqual(combine_duals("div", (0, 2), (2, 3)), (0, 1))


class TestShares(FieldCase):
    """Point 21."""

    def test_example(self):
        self.assertEqual(shares("mul", 3, 5, 15, 2), (10, 6))

    def test_rules_of_add_sub_and_mul(self):
        for a, c, g, result in quadruples():
            with self.subTest(a=a, c=c, g=g):
                self.assert_pair(shares("add", a, c, result, g), g, g)
                self.assert_pair(shares("sub", a, c, result, g), g, 0 - g)
                self.assert_pair(shares("mul", a, c, result, g), g * c, g * a)

    def test_rule_of_div(self):
        for a in NUMBERS:
            for c in NUMBERS[1:]:
                y = combine("div", a, c)
                for g in FEW:
                    with self.subTest(a=a, c=c, g=g):
                        t = combine("div", g, c)
                        self.assert_pair(shares("div", a, c, y, g), t, 0 - t * y)

    def test_known_shares(self):
        self.assertEqual(shares("add", 3, 5, 8, LAST), (LAST, LAST))
        self.assertEqual(shares("sub", 3, 5, PRIME - 2, LAST), (LAST, 1))
        self.assertEqual(shares("mul", 3, 5, 15, LAST), (PRIME - 5, PRIME - 3))
        self.assertEqual(shares("div", 15, 5, 3, 10), (2, PRIME - 6))
        self.assertEqual(shares("div", 15, 5, 3, PRIME - 10), (PRIME - 2, 6))

    def test_a_bar_of_zero_shares_nothing(self):
        for op in OPERATIONS:
            for a in NUMBERS:
                self.assertEqual(shares(op, a, 7, combine(op, a, 7), 0), (0, 0))

    def test_operands_of_zero(self):
        self.assertEqual(shares("mul", 0, 0, 0, 9), (0, 0))
        self.assertEqual(shares("mul", 0, 4, 0, 9), (36, 0))
        self.assertEqual(shares("mul", 4, 0, 0, 9), (0, 36))
        self.assertEqual(shares("div", 0, 3, 0, 9), (3, 0))

    def test_only_div_looks_at_the_result(self):
        for op in ("add", "sub", "mul"):
            self.assertEqual(shares(op, 3, 5, None, 2), shares(op, 3, 5, combine(op, 3, 5), 2))
        self.assertEqual(shares("div", 15, 5, 4, 10), (2, PRIME - 8))

    def test_slope_times_bar_is_the_sum_of_the_shares(self):
        for op in OPERATIONS:
            for a, b, c, d in quadruples():
                if op == "div" and c == 0:
                    continue
                result, slope = combine_duals(op, (a, b), (c, d))
                for g in FEW:
                    first, second = shares(op, a, c, result, g)
                    self.assert_number(0, slope * g - (b * first + d * second))


class TestDot(FieldCase):
    """Point 20."""

    def test_tuples_and_lists(self):
        self.assertEqual(dot((1, 2, 3), (4, 5, 6)), 32)
        self.assertEqual(dot([1, 2, 3], [4, 5, 6]), 32)
        self.assertEqual(dot((1, 2, 3), [4, 5, 6]), 32)
        self.assertEqual(dot([1, 2, 3], (4, 5, 6)), 32)

    def test_empty_rows(self):
        for first in ((), []):
            for second in ((), []):
                self.assertEqual(dot(first, second), 0)

    def test_one_number(self):
        self.assertEqual(dot((7,), (8,)), 56)
        self.assertEqual(dot((0,), (LAST,)), 0)

    def test_sums_beyond_prime(self):
        self.assertEqual(dot((LAST, 1), (1, 1)), 0)
        self.assertEqual(dot((LAST,) * 32, (LAST,) * 32), 32)
        self.assertEqual(dot((LAST,) * 32, (1,) * 32), PRIME - 32)
        self.assert_number(dot(NUMBERS, NUMBERS), sum(n * n for n in NUMBERS))

    def test_integers_are_reduced(self):
        """Point 11: a row may hold integers of any size and sign."""
        self.assertEqual(dot((-1, FAR), (1, 0)), LAST)
        self.assertEqual(dot([PRIME, PRIME + 2], [5, -3]), PRIME - 6)
        self.assert_number(dot((FAR, -FAR), (FAR, 2 ** 70)), FAR * FAR - FAR * 2 ** 70)

    def test_dot_with_a_basis_picks_a_number(self):
        for place in range(len(NUMBERS)):
            self.assertEqual(dot(NUMBERS, basis(len(NUMBERS), place)), NUMBERS[place])


class TestBasis(FieldCase):
    """Point 22."""

    def test_places(self):
        self.assertEqual(basis(4, 0), (1, 0, 0, 0))
        self.assertEqual(basis(4, 1), (0, 1, 0, 0))
        self.assertEqual(basis(4, 2), (0, 0, 1, 0))
        self.assertEqual(basis(4, 3), (0, 0, 0, 1))

    def test_size_one(self):
        self.assertEqual(basis(1, 0), (1,))

    def test_rows_of_every_size(self):
        for size in range(1, 33):
            for place in range(size):
                row = basis(size, place)
                self.assertIs(type(row), tuple)
                self.assertEqual((len(row), sum(row), row[place]), (size, 1, 1))
                self.assertTrue(all(is_number(number) for number in row))


class TestPurity(unittest.TestCase):
    """Point 5: no function modifies its arguments, and calls have no memory."""

    def test_rows_are_left_as_they_were(self):
        first, second = [1, -2, FAR], [LAST, PRIME, 3]
        rows = copy.deepcopy((first, second))
        found = dot(first, second)
        self.assertEqual((first, second), rows)
        self.assertEqual(dot(first, second), found)

    def test_pairs_are_left_as_they_were(self):
        for op in OPERATIONS:
            first, second = (3, 1), (5, 2)
            found = combine_duals(op, first, second)
            self.assertEqual((first, second), ((3, 1), (5, 2)))
            self.assertEqual(combine_duals(op, first, second), found)


def quadruples(numbers=FEW):
    return [(a, b, c, d) for a in numbers for b in numbers for c in numbers for d in numbers]


if __name__ == "__main__":
    unittest.main()
