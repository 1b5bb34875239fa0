"""INTEGERS and COUNTS [2]."""

import unittest

from helpers import NO_COUNTS, NO_INTEGERS, check_call

from whichpaces.basics import is_count, is_integer


class Basics(unittest.TestCase):
    def test_integers(self):
        for value in [0, 1, -1, 10 ** 40 - 1, -10 ** 40, 10 ** 399]:
            check_call(self, is_integer, (value,), True)
        for value in NO_INTEGERS:
            self.assertIs(is_integer(value), False, value)

    def test_counts(self):
        for value in [0, 1, 10 ** 40 - 1]:
            check_call(self, is_count, (value,), True)
        for value in NO_COUNTS:
            self.assertIs(is_count(value), False, value)


if __name__ == "__main__":
    unittest.main()
