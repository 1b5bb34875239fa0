"""Unlike real roots [22] to [24]."""

import random
import unittest
from fractions import Fraction
from math import isqrt

from helpers import BAD_POLYNOMIAL, BAD_RATIO, bad_many, bad_position, check_call, check_state, check_wrong
from helpers import ratio, times

from whichpaces.errors import InvalidMany, InvalidPolynomial, InvalidPosition, InvalidRatio, IsNought
from whichpaces.realroots import count_above, count_between, real_count, root_floor

TINY = Fraction(1, 10 ** 39)


class Root:
    """A real root told plainly: a sign, and the Fraction that it is the square root of."""

    def __init__(self, sign, square):
        self.sign = sign
        self.square = Fraction(square)

    def side(self, place):
        """1 if the root is above the Fraction, 0 if it is there, -1 if it is below."""
        mine, its = self.sign * self.square, place * abs(place)
        return (mine > its) - (mine < its)

    def floor(self, many):
        """The greatest integer at most 2 ** many times the root."""
        scaled = self.square * 4 ** many
        low = isqrt(scaled.numerator // scaled.denominator)
        if self.sign >= 0:
            return low
        return -low if low * low == scaled else -low - 1


def whole(number):
    """A Fraction as a Root."""
    return Root(-1 if number < 0 else 1, Fraction(number) ** 2)


# Factors, each with its real roots.
FACTORS = [
    ((0, 1), [whole(0)]),
    ((-3, 1), [whole(3)]),
    ((7, 1), [whole(-7)]),
    ((-1, 2), [whole(Fraction(1, 2))]),
    ((22, 7), [whole(Fraction(-22, 7))]),
    ((-2, 0, 1), [Root(1, 2), Root(-1, 2)]),
    ((-3, 0, 5), [Root(1, Fraction(3, 5)), Root(-1, Fraction(3, 5))]),
    ((1, 0, 1), []),
    ((1, 1, 1), []),
    ((-999999, 0, 1), [Root(1, 999999), Root(-1, 999999)]),
    ((-1, 0, 999983), [Root(1, Fraction(1, 999983)), Root(-1, Fraction(1, 999983))]),
    ((-1000000, 1), [whole(1000000)]),
    ((1, 1000000), [whole(Fraction(-1, 1000000))]),
]
PLACES = [Fraction(-8), Fraction(-22, 7), Fraction(-1), Fraction(0), Fraction(1, 2), Fraction(141421, 100000), Fraction(9)]


def products(seed, many):
    """Polynomials made of factors, some of which stand often, with their unlike roots from above."""
    chance = random.Random(seed)
    found = []
    while len(found) < many:
        chosen = [chance.choice(FACTORS) for _ in range(chance.randint(1, 7))]
        row = times((chance.choice([1, -1, 3, -2]),), *[factor for factor, _ in chosen])
        if len(row) <= 13 and max([abs(number) for number in row]) <= 10 ** 6:
            roots = {(root.sign, root.square): root for _, told in chosen for root in told}
            order = sorted(roots, key=lambda key: key[0] * key[1], reverse=True)
            found.append((row, [roots[key] for key in order]))
    return found


class Counts(unittest.TestCase):
    def test_in_all(self):
        for row, roots in products(1, 60):
            check_call(self, real_count, (row,), len(roots))

    def test_above(self):
        for row, roots in products(2, 40):
            for place in PLACES + marks(roots):
                many = len([root for root in roots if root.side(place) == 1])
                check_call(self, count_above, (row, ratio(place)), many)

    def test_between(self):
        for row, roots in products(3, 12):
            for low in PLACES[::2] + marks(roots):
                for high in PLACES[1::2] + marks(roots):
                    many = len([root for root in roots if root.side(low) == 1 and root.side(high) == -1])
                    check_call(self, count_between, (row, ratio(low), ratio(high)), many)

    def test_low_not_below_high(self):
        for row in [(0, 1), (0, -2, 0, 1), (1, -3, 1)]:
            for low, high in [(1, 1), (1, -1), (0, 0), (3, 0), (9, -9)]:
                check_call(self, count_between, (row, (low, 1), (high, 1)), 0)
            check_call(self, count_between, (row, (1, 2), (1, 3)), 0)

    def test_degree_nought_has_no_roots(self):
        for row in [(1,), (-7,), (10 ** 6,)]:
            check_call(self, real_count, (row,), 0)
            check_call(self, count_above, (row, (-5, 1)), 0)
            check_call(self, count_between, (row, (-5, 1), (5, 1)), 0)

    def test_near_roots(self):
        row = times((-1, 1), (-1001, 1000))
        check_call(self, count_between, (row, (1, 1), (1001, 1000)), 0)
        check_call(self, count_between, (row, ratio(1 - TINY), ratio(Fraction(1001, 1000) + TINY)), 2)
        check_call(self, count_between, (times((2, -2, 1), (2, -2, 1), (-1, 1)), (0, 1), (2, 1)), 1)

    def test_great_degrees(self):
        row = tuple([(-1) ** power * (10 ** 6 - power) for power in range(13)])
        check_call(self, real_count, (row,), 0)
        row = (-10 ** 6,) + (0,) * 11 + (10 ** 6,)
        check_call(self, real_count, (row,), 2)
        check_call(self, count_between, (row, (-1, 1), (1, 1)), 0)
        check_call(self, count_between, (row, ratio(-1 - TINY), ratio(1 + TINY)), 2)
        check_call(self, real_count, ((10 ** 6,) * 12 + (-1,),), 2)
        check_call(self, count_above, ((10 ** 6,) * 12 + (-1,), (10 ** 6, 1)), 1)


def marks(roots):
    """Places at the roots that are ratios, beside them, and near the others."""
    found = []
    for root in roots[:3]:
        told = root.square
        if isqrt(told.numerator) ** 2 == told.numerator and isqrt(told.denominator) ** 2 == told.denominator:
            at = root.sign * Fraction(isqrt(told.numerator), isqrt(told.denominator))
            found += [at, at + TINY, at - TINY]
        else:
            found += [Fraction(root.floor(100), 2 ** 100), Fraction(root.floor(100) + 1, 2 ** 100)]
    return found


class Floors(unittest.TestCase):
    def test_each_position(self):
        for row, roots in products(4, 40):
            for position, root in enumerate(roots):
                for many in [0, 1, 7, 400]:
                    check_call(self, root_floor, (row, position, many), root.floor(many))

    def test_just_whole_at_that_many_places(self):
        for number in [-5, -3, -1, 0, 1, 3, 5]:
            for many in range(6):
                floor = number * 2 ** many // 8
                check_call(self, root_floor, ((-number, 8), 0, many), floor)
                check_call(self, root_floor, (times((-number, 8), (-number, 8), (-97, 1)), 1, many), floor)

    def test_nought_among_the_roots(self):
        row = times((0, 1), (0, 1), (-1, 1000), (1, 1000))
        for many in [0, 5, 9, 10, 400]:
            check_call(self, root_floor, (row, 0, many), 2 ** many // 1000)
            check_call(self, root_floor, (row, 1, many), 0)
            check_call(self, root_floor, (row, 2, many), -2 ** many // 1000)

    def test_roots_that_lie_together_for_many_places(self):
        row = times((-600, 601), (-599, 600))
        for many in [0, 5, 19, 20, 21, 60]:
            check_call(self, root_floor, (row, 0, many), 600 * 2 ** many // 601)
            check_call(self, root_floor, (row, 1, many), 599 * 2 ** many // 600)

    def test_low_and_high_end_of_an_interval(self):
        for number in [1, 2, 4, -1, -4]:
            row = times((-number, 1), (-number - 1, 1), (1 - 2 * number, 2))
            for many in [0, 1, 3, 50]:
                check_call(self, root_floor, (row, 0, many), (number + 1) * 2 ** many)
                check_call(self, root_floor, (row, 1, many), number * 2 ** many)
                check_call(self, root_floor, (row, 2, many), (2 * number - 1) * 2 ** many // 2)

    def test_great_numbers(self):
        chance = random.Random(5)
        for _ in range(4):
            row = tuple([chance.randint(-10 ** 6, 10 ** 6) for _ in range(12)] + [-10 ** 6])
            for position in range(real_count(row)):
                coarse, fine = root_floor(row, position, 3), root_floor(row, position, 400)
                self.assertEqual(fine >> 397, coarse)
                low, high = ratio(fine, 2 ** 400), ratio(fine + 1, 2 ** 400)
                self.assertEqual(count_above(row, high), position)
                self.assertEqual(count_between(row, low, high) + (count_above(row, low) == position), 1)


class Wrong(unittest.TestCase):
    def test_wrong_values(self):
        row = (1, -3, 1)
        check_wrong(self, real_count, (row,), [BAD_POLYNOMIAL])
        check_wrong(self, count_above, (row, (1, 2)), [BAD_POLYNOMIAL, BAD_RATIO])
        check_wrong(self, count_between, (row, (1, 2), (3, 2)), [BAD_POLYNOMIAL, BAD_RATIO, BAD_RATIO])
        check_wrong(self, root_floor, (row, 1, 5), [BAD_POLYNOMIAL, bad_position(2), bad_many(400)])

    def test_positions_of_one_without_real_roots(self):
        for row in [(5,), (1, 0, 1)]:
            with self.assertRaises(InvalidPosition):
                root_floor(row, 0, 0)

    def test_nought(self):
        check_state(self, IsNought, real_count, ())
        check_state(self, IsNought, count_above, (), (1, 2))
        check_state(self, IsNought, count_between, (), (1, 2), (0, 1))

    def test_nought_comes_behind_ratios_and_ahead_of_position_and_many(self):
        for function, args in [(count_above, ((), (2, 4))), (count_between, ((), (2, 4), (1, 1))),
                               (count_between, ((), (1, 1), None))]:
            check_state(self, InvalidRatio, function, *args)
        for position, many in [(0, 0), (None, 0), (0, None), (-1, 401), (True, True)]:
            check_state(self, IsNought, root_floor, (), position, many)
        check_state(self, InvalidPolynomial, root_floor, [], 0, 0)
        check_state(self, InvalidPosition, root_floor, (1, -3, 1), 2, 401)
        check_state(self, InvalidMany, root_floor, (1, -3, 1), 1, 401)


if __name__ == "__main__":
    unittest.main()
