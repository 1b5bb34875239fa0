"""Changes of signs [21]."""

import unittest
from itertools import product

from helpers import BAD_POLYNOMIAL, check_call, check_wrong

from whichpaces.signs import sign_changes


class Signs(unittest.TestCase):
    def test_noughts_between_are_passed_over(self):
        for row, many in [
            ((), 0), ((5,), 0), ((-5,), 0), ((1, -1), 1), ((-1, 0, 0, 0, 1), 1), ((1, 0, 0, 1), 0),
            ((0, 0, -3), 0), ((0, 2, 0, -3, 0, 4), 2), ((-1, 0, -1, 0, 1, 0, 1, -2), 2), ((1, -1) * 6 + (1,), 12),
            ((10 ** 6, -10 ** 6), 1), ((0,) * 11 + (1, -1), 1),
        ]:
            check_call(self, sign_changes, (row,), many)

    def test_each_short_row(self):
        for row in product([-2, 0, 3], repeat=5):
            if row[-1]:
                signs = [number > 0 for number in row if number]
                many = sum([one != two for one, two in zip(signs, signs[1:])])
                check_call(self, sign_changes, (row,), many)

    def test_wrong_values(self):
        check_wrong(self, sign_changes, ((1, 2),), [BAD_POLYNOMIAL])


if __name__ == "__main__":
    unittest.main()
