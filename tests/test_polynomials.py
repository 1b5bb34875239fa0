"""POLYNOMIALS [5], [12] to [15]."""

import random
import unittest
from fractions import Fraction

from helpers import BAD_POLYNOMIAL, BAD_RATIO, NO_POLYNOMIALS, check_call, check_state, check_wrong
from helpers import divisor_of, ratio, times, worth

from whichpaces.errors import NotMonic, TooMany
from whichpaces.polynomials import is_polynomial, poly_bare, poly_common, poly_divided, poly_minus, poly_plus
from whichpaces.polynomials import poly_single, poly_slope, poly_times, poly_worth

MOST = 10 ** 6
EDGES = [
    (), (1,), (-1,), (MOST,), (-MOST, -MOST), (0, 1), (0, 0, -2), (1, -3, 1), (-4, 6, -2), (0,) * 12 + (1,),
    (MOST,) * 13, (-MOST,) * 12 + (-1,), (1,) * 13, (6, 0, 0, 9), (5, 1), (0, MOST),
]


def some_polynomials(seed, many, most_degree, size):
    """So many polynomials, each time the same ones."""
    chance = random.Random(seed)
    rows = []
    while len(rows) < many:
        row = [chance.randint(-size, size) for _ in range(chance.randint(0, most_degree) + 1)]
        if row[-1]:
            rows.append(tuple(row))
    return rows


def trimmed(numbers):
    """A list of numbers as a polynomial."""
    while numbers and numbers[-1] == 0:
        numbers = numbers[:-1]
    return tuple(numbers)


def at(row, power):
    """The number at a power."""
    return row[power] if power < len(row) else 0


class Forms(unittest.TestCase):
    def test_what_a_polynomial_is(self):
        for value in EDGES + some_polynomials(1, 30, 12, MOST):
            check_call(self, is_polynomial, (value,), True)
        for value in NO_POLYNOMIALS:
            self.assertIs(is_polynomial(value), False, value)


class Sums(unittest.TestCase):
    def test_plus_and_minus(self):
        rows = EDGES + some_polynomials(2, 8, 12, MOST)
        for row in rows:
            for other in rows:
                total = trimmed([at(row, power) + at(other, power) for power in range(13)])
                check_call(self, poly_plus, (row, other), total)
                left = trimmed([at(row, power) - at(other, power) for power in range(13)])
                check_call(self, poly_minus, (row, other), left)

    def test_heads_fall_away(self):
        check_call(self, poly_plus, ((1, 2, 3), (0, 0, -3)), (1, 2))
        check_call(self, poly_plus, ((0, 0, 3), (0, 0, -3)), ())
        check_call(self, poly_minus, ((5, 0, 0, 7), (4, 0, 0, 7)), (1,))
        check_call(self, poly_minus, ((), (0, -1)), (0, 1))

    def test_times(self):
        for row in some_polynomials(3, 20, 6, MOST):
            for other in some_polynomials(4, 20, 6, MOST):
                check_call(self, poly_times, (row, other), times(row, other))
        check_call(self, poly_times, ((), (1,) * 13), ())
        check_call(self, poly_times, ((1,) * 13, ()), ())
        check_call(self, poly_times, ((), ()), ())
        check_call(self, poly_times, ((MOST,), (-MOST,) * 13), (-MOST * MOST,) * 13)

    def test_degrees_twelve_and_thirteen(self):
        high = (0,) * 6 + (1,)
        check_call(self, poly_times, (high, high), (0,) * 12 + (1,))
        for row, other in [(high, (0,) + high), ((0,) * 12 + (1,), (1, 1)), ((1,) * 13, (1,) * 13)]:
            caught = check_state(self, TooMany, poly_times, row, other)
            self.assertEqual((caught.what, caught.limit), ("degree", 12))


class Worths(unittest.TestCase):
    def test_worths(self):
        places = [ratio(0), ratio(1), ratio(-1), ratio(1, 2), ratio(-7, 3), ratio(10 ** 40 - 1, 10 ** 39)]
        for row in EDGES + some_polynomials(5, 20, 12, MOST):
            for place in places:
                check_call(self, poly_worth, (row, place), ratio(worth(row, Fraction(*place))))
        check_call(self, poly_worth, ((), (5, 7)), (0, 1))
        check_call(self, poly_worth, ((-9,), (5, 7)), (-9, 1))
        check_call(self, poly_worth, ((-2, 4), (1, 2)), (0, 1))

    def test_slopes(self):
        for row in EDGES + some_polynomials(6, 20, 12, MOST):
            check_call(self, poly_slope, (row,), tuple([row[power] * power for power in range(1, len(row))]))
        check_call(self, poly_slope, ((),), ())
        check_call(self, poly_slope, ((7,),), ())
        check_call(self, poly_slope, ((0,) * 12 + (MOST,),), (0,) * 11 + (12 * MOST,))


class Division(unittest.TestCase):
    def test_quotients_and_rests(self):
        for row in EDGES + some_polynomials(7, 20, 12, MOST):
            for lower in [(0,), (5,), (-MOST, MOST), (1, -3), (0, 0, 0), (2,) * 12]:
                other = lower + (1,)
                quotient, rest = poly_divided(row, other)
                self.assertLess(len(rest), len(other))
                whole = [at(times(quotient, other), power) + at(rest, power) for power in range(13)]
                self.assertEqual(trimmed(whole), row)
                check_call(self, poly_divided, (row, other), (trimmed(list(quotient)), trimmed(list(rest))))

    def test_by_one_of_a_greater_degree(self):
        check_call(self, poly_divided, ((1, 2, 3), (0, 0, 0, 1)), ((), (1, 2, 3)))
        check_call(self, poly_divided, ((), (5, 1)), ((), ()))
        check_call(self, poly_divided, ((7,), (5, 1)), ((), (7,)))

    def test_powers_of_a_great_root(self):
        quotient = tuple([MOST ** (11 - power) for power in range(12)])
        check_call(self, poly_divided, ((0,) * 12 + (1,), (-MOST, 1)), (quotient, (MOST ** 12,)))

    def test_only_by_monic_ones(self):
        for row in [(), (1,), (1, 2, 3)]:
            for other in [(), (1,), (2,), (-1,), (1, 2), (1, -1), (0, 0, MOST)]:
                check_state(self, NotMonic, poly_divided, row, other)


class Parts(unittest.TestCase):
    def test_bare(self):
        for row in EDGES + some_polynomials(8, 20, 12, 50):
            common = divisor_of(row) * (-1 if row and row[-1] < 0 else 1)
            check_call(self, poly_bare, (row,), tuple([number // common for number in row]))
        for row in some_polynomials(12, 20, 12, 1000):
            for many in [-999, -6, -1, 1, 2, 1000]:
                check_call(self, poly_bare, (times((many,), row),), poly_bare(row))
        check_call(self, poly_bare, ((),), ())
        check_call(self, poly_bare, ((-5,),), (1,))
        check_call(self, poly_bare, ((0, 0, -7),), (0, 0, 1))
        check_call(self, poly_bare, ((-3, 0, 6),), (-1, 0, 2))

    def test_common_parts_of_products(self):
        factors = [(-1, 2), (1, 0, 1), (3, 1), (-2, 0, 1), (0, 1), (2, -1, 3)]
        for chosen in range(64):
            shared = times(*[row for at_bit, row in enumerate(factors) if chosen >> at_bit & 1])
            first, second = times((6,), shared, (5, 1)), times((-4,), shared, (7, 3, 1))
            check_call(self, poly_common, (first, second), shared)
            check_call(self, poly_common, (second, first), shared)

    def test_common_parts_with_often_ones(self):
        first = times((1, 1), (1, 1), (1, 1), (-2, 1))
        second = times((1, 1), (1, 1), (-2, 1), (-2, 1))
        check_call(self, poly_common, (first, second), times((1, 1), (1, 1), (-2, 1)))

    def test_common_parts_of_strangers(self):
        for row in some_polynomials(9, 12, 12, MOST):
            for other in some_polynomials(10, 12, 12, MOST):
                check_call(self, poly_common, (row, other), (1,))
        check_call(self, poly_common, ((6,), (4,)), (1,))
        check_call(self, poly_common, ((6, 6), (4,)), (1,))

    def test_common_parts_with_nought(self):
        check_call(self, poly_common, ((), ()), ())
        for row in EDGES:
            check_call(self, poly_common, (row, ()), poly_bare(row))
            check_call(self, poly_common, ((), row), poly_bare(row))
            check_call(self, poly_common, (row, row), poly_bare(row))

    def test_single(self):
        factors = [(-1, 2), (1, 0, 1), (3, 1), (-2, 0, 1), (0, 1)]
        powers = [[1, 2, 0, 0, 1], [3, 1, 1, 2, 1], [0, 0, 5, 2, 3], [0, 4, 0, 1, 2], [12, 0, 0, 0, 0], [1, 1, 1, 1, 1]]
        for chosen in powers:
            whole = times((-3,), *[row for row, many in zip(factors, chosen) for _ in range(many)])
            expected = times(*[row for row, many in zip(factors, chosen) if many])
            check_call(self, poly_single, (whole,), expected)
        for row in some_polynomials(11, 12, 12, MOST):
            check_call(self, poly_single, (row,), poly_bare(row))

    def test_single_of_nought_and_of_degree_nought(self):
        check_call(self, poly_single, ((),), ())
        check_call(self, poly_single, ((1,),), (1,))
        check_call(self, poly_single, ((-MOST,),), (1,))
        check_call(self, poly_single, ((0, -5),), (0, 1))


class Wrong(unittest.TestCase):
    def test_wrong_values(self):
        for function in [poly_slope, poly_bare, poly_single]:
            check_wrong(self, function, ((1, 2),), [BAD_POLYNOMIAL])
        for function in [poly_plus, poly_minus, poly_times, poly_divided, poly_common]:
            check_wrong(self, function, ((1, 2), (1, 1)), [BAD_POLYNOMIAL, BAD_POLYNOMIAL])
        check_wrong(self, poly_worth, ((1, 2), (1, 2)), [BAD_POLYNOMIAL, BAD_RATIO])

    def test_what_is_told_for_no_parameter_comes_behind(self):
        check_wrong(self, lambda row: poly_divided(row, ()), ((1,),), [BAD_POLYNOMIAL])
        check_wrong(self, lambda row: poly_times(row, (1,) * 13), ((1,),), [BAD_POLYNOMIAL])


if __name__ == "__main__":
    unittest.main()
