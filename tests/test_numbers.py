"""What a NUMBER is [6], [51]."""

import unittest

from helpers import NO_NUMBERS, check_call

from whichpaces.numbers import is_number

NUMBERS = [
    (-1, 1), (-9999, 1), (-2, 0, 1), (-1, -1, 1), (-1, -1, 0, 1), (1, -1, -1, -1, 1), (-2, 0, 0, 0, 0, 1),
    (-2, 0, 0, 0, 0, 0, 1), (-9999, 9999, -9999, 9999, -9999, 9997, 1),
]


class Numbers(unittest.TestCase):
    def test_numbers_of_each_degree(self):
        for least in NUMBERS:
            check_call(self, is_number, (("number", least, 0),), True)

    def test_positions_are_those_of_roots_above_nought(self):
        for least, many in [
            ((1, -3, 1), 2), ((-1, -1, 1), 1), ((2, 0, -4, 0, 1), 2), ((1, 0, -10, 0, 1), 2), ((-1, 0, -1, 0, 1), 1),
            ((1, 0, 1), 0), ((1, 1), 0), ((1, 3, 1), 0), ((-1, 1, -2, 1), 1), ((1, -3, 0, 1), 2), ((7, -1), 0),
        ]:
            for position in range(6):
                check_call(self, is_number, (("number", least, position),), position < many)

    def test_all_else_is_no_number(self):
        for value in NO_NUMBERS:
            self.assertIs(is_number(value), False, value)


if __name__ == "__main__":
    unittest.main()
