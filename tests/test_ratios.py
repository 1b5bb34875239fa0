"""RATIOS [5], [11]."""

import unittest
from fractions import Fraction

from helpers import BAD_DIVISOR, BAD_INTEGER, BAD_RATIO, NO_RATIOS, check_call, check_state, check_wrong, ratio

from whichpaces.errors import DividedByNought
from whichpaces.ratios import is_ratio, ratio_compared, ratio_floor, ratio_made, ratio_minus, ratio_over
from whichpaces.ratios import ratio_plus, ratio_times

GREAT = 10 ** 40 - 1
NUMBERS = [0, 1, -1, 2, -3, 6, 7, -12, 35, GREAT, -GREAT, 10 ** 39, -2 * 10 ** 39 + 1]
RATIOS = [ratio(number, under) for number in NUMBERS for under in NUMBERS if under > 0]


class Ratios(unittest.TestCase):
    def test_what_a_ratio_is(self):
        for value in RATIOS:
            check_call(self, is_ratio, (value,), True)
        for value in NO_RATIOS:
            self.assertIs(is_ratio(value), False, value)

    def test_made(self):
        for number in NUMBERS:
            for under in NUMBERS:
                if under:
                    check_call(self, ratio_made, (number, under), ratio(number, under))

    def test_reckoned_as_fractions(self):
        for one in RATIOS[::3]:
            for two in RATIOS:
                first, second = Fraction(*one), Fraction(*two)
                check_call(self, ratio_plus, (one, two), ratio(first + second))
                check_call(self, ratio_minus, (one, two), ratio(first - second))
                check_call(self, ratio_times, (one, two), ratio(first * second))
                check_call(self, ratio_compared, (one, two), (first > second) * 1 - (first < second) * 1)
                if second:
                    check_call(self, ratio_over, (one, two), ratio(first / second))

    def test_floors(self):
        for one in RATIOS:
            check_call(self, ratio_floor, (one,), one[0] // one[1])
        for told, floor in [((-1, 2), -1), ((1, 2), 0), ((-4, 1), -4), ((-9, 4), -3), ((-1, GREAT), -1)]:
            check_call(self, ratio_floor, (told,), floor)

    def test_what_came_may_be_passed_on(self):
        told = (1, GREAT)
        for _ in range(4):
            told = ratio_times(told, told)
            self.assertIs(is_ratio(told), True)
        self.assertEqual(ratio_over(told, told), (1, 1))
        self.assertEqual(ratio_floor(ratio_minus((0, 1), told)), -1)

    def test_no_division_by_nought(self):
        for one in RATIOS:
            check_state(self, DividedByNought, ratio_over, one, (0, 1))

    def test_wrong_ratios(self):
        check_wrong(self, ratio_made, (3, 4), [BAD_INTEGER, BAD_DIVISOR])
        check_wrong(self, ratio_floor, ((3, 4),), [BAD_RATIO])
        for function in [ratio_plus, ratio_minus, ratio_times, ratio_over, ratio_compared]:
            check_wrong(self, function, ((3, 4), (1, 2)), [BAD_RATIO, BAD_RATIO])

    def test_the_first_ratio_is_looked_at_ahead_of_nought(self):
        check_wrong(self, lambda one: ratio_over(one, (0, 1)), ((1, 2),), [BAD_RATIO])


if __name__ == "__main__":
    unittest.main()
