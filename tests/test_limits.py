"""Point 14: the limits."""

import unittest

from countermarch import limits

VALUES = {
    "PRIME": 2147483647,
    "MAX_DEPTH": 4,
    "MAX_CALLS": 6,
    "MAX_FUEL": 300,
    "MAX_CELLS": 32,
    "MAX_SIZE": 8,
    "MAX_NODES": 300,
    "MAX_INTEGER": 1000,
    "MAX_BEATS": 40,
    "MAX_KEPT": 8,
    "MAX_TEXT": 6000,
    "MAX_FORMS": 20,
    "MAX_PROCEDURES": 8,
    "MAX_HANDED": 6,
}


class TestLimits(unittest.TestCase):
    def test_each_constant_has_its_value(self):
        for name, value in VALUES.items():
            with self.subTest(name=name):
                self.assertIs(type(getattr(limits, name)), int)
                self.assertEqual(getattr(limits, name), value)

    def test_prime_has_no_divisor(self):
        self.assertTrue(all(limits.PRIME % n for n in range(2, 46342)))
        self.assertGreater(46342 ** 2, limits.PRIME)


if __name__ == "__main__":
    unittest.main()
