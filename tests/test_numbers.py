"""NUMBERS [6], [51] to [53], [55], [56]."""

import random
import unittest
from fractions import Fraction
from math import isqrt

from helpers import BAD_NUMBER, BAD_POLYNOMIAL, BAD_RATIO, NO_NUMBERS, bad_many, bad_mix, check_call, check_state
from helpers import check_wrong, ratio, real_roots, times, worth

from whichpaces.errors import InvalidNumber, InvalidRatio, NotMonic, NotOne, TooMany
from whichpaces.mixes import mix_made, mix_minus, power_mix
from whichpaces.numbers import is_number, mix_floor, mix_sign, number_beside, number_compared, number_floor, number_of

NUMBERS = [
    (-1, 1), (-9999, 1), (-2, 0, 1), (-1, -1, 1), (-1, -1, 0, 1), (1, -1, -1, -1, 1), (-2, 0, 0, 0, 0, 1),
    (-2, 0, 0, 0, 0, 0, 1), (-9999, 9999, -9999, 9999, -9999, 9997, 1),
]
# Least polynomials of each degree from 1 to 6, each with its real roots above 0 among others.
LEAST = [
    (-1, 1), (-7, 1), (-9999, 1), (-2, 0, 1), (-1, -1, 1), (1, -3, 1), (2, -4, 1), (-9999, -9999, 1), (9999, -9999, 1),
    (-1, -1, 0, 1), (-1, 1, -2, 1), (1, -3, 0, 1), (1, 0, -10, 0, 1), (2, 0, -4, 0, 1), (-1, -1, 0, 0, 1),
    (1, -1, 0, 0, -3, 1), (-2, 0, 0, 0, 0, 1), (-3, 9, -1, -7, 0, 1), (-2, 0, 0, 0, 0, 0, 1), (1, 0, -9, 0, 6, 0, 1),
    (-9999, 9999, -9999, 9999, -9999, 9997, 1), (1, 3, -6, -4, 5, 1, 1), (-2, 280, -9800, 0, 0, 0, 1),
]
GOLD = ("number", (-1, -1, 1), 0)


def numbers_of(least):
    """The numbers that a least polynomial has, from the greatest one on."""
    many = len([root for root in real_roots(least) if root > 0])
    return [("number", least, position) for position in range(many)]


EACH = [number for least in LEAST for number in numbers_of(least)]


def root_floor_of(root, places):
    """The floor of a square root of a Fraction with so many places."""
    return isqrt((root.numerator << (2 * places)) // root.denominator)


def plain_mix_floor(mix, square, places):
    """The floor of the mix of the square root of an integer, no square itself, told by square roots."""
    (whole, part), under = mix
    whole, part = whole << places, part << places
    inner = part * part * square
    root = isqrt(inner)
    if part < 0:
        root = -root - (1 if root * root < inner else 0)
    return (whole + root) // under


class Numbers(unittest.TestCase):
    def test_numbers_of_each_degree(self):
        for least in NUMBERS:
            check_call(self, is_number, (("number", least, 0),), True)
        for number in EACH:
            check_call(self, is_number, (number,), True)
        self.assertEqual(len(EACH), 34)

    def test_positions_are_those_of_roots_above_nought(self):
        for least, many in [
            ((1, -3, 1), 2), ((-1, -1, 1), 1), ((2, 0, -4, 0, 1), 2), ((1, 0, -10, 0, 1), 2), ((-1, 0, -1, 0, 1), 1),
            ((1, 0, 1), 0), ((1, 1), 0), ((1, 3, 1), 0), ((-1, 1, -2, 1), 1), ((1, -3, 0, 1), 2), ((7, -1), 0),
        ]:
            for position in range(6):
                check_call(self, is_number, (("number", least, position),), position < many)

    def test_all_else_is_no_number(self):
        for value in NO_NUMBERS:
            self.assertIs(is_number(value), False, value)


class Of(unittest.TestCase):
    def check_each_root(self, factors):
        """Each real root of the product, with others beside it and none."""
        whole = times(*factors)
        roots = sorted([(root, least) for least in set(factors) for root in real_roots(least)])
        for at, (root, least) in enumerate(roots):
            low = (roots[at - 1][0] + root) / 2 if at else root - 1
            high = (roots[at + 1][0] + root) / 2 if at + 1 < len(roots) else root + 1
            args = (whole, ratio(Fraction(low).limit_denominator(10 ** 9)),
                    ratio(Fraction(high).limit_denominator(10 ** 9)))
            if root > 0:
                position = len([other for other in real_roots(least) if other > root])
                check_call(self, number_of, args, ("number", least, position))
            else:
                check_state(self, NotOne, number_of, *args)

    def test_products_with_each_wanted_root(self):
        chance = random.Random(51)
        pool = [(0, 1), (1, 1), (2, 1), (1, 0, 1), (-5, 1), (-1, 1), (-2, 0, 1), (-1, -1, 1), (1, -3, 1), (2, -4, 1),
                (-1, -1, 0, 1), (-1, 1, -2, 1), (1, -3, 0, 1), (1, 0, -10, 0, 1), (-2, 0, 0, 0, 0, 1)]
        for _ in range(30):
            factors = []
            for least in chance.sample(pool, 5):
                again = factors + [least] * chance.choice([1, 1, 2])
                if sum([len(part) - 1 for part in again]) <= 12 and max([abs(n) for n in times(*again)]) <= 10 ** 6:
                    factors = again
            self.check_each_root(factors)

    def test_roots_at_the_ends_are_left_out(self):
        whole = times((-1, 1), (-2, 1), (-3, 1))
        check_call(self, number_of, (whole, (1, 1), (3, 1)), ("number", (-2, 1), 0))
        check_call(self, number_of, (whole, (2, 1), (4, 1)), ("number", (-3, 1), 0))
        check_call(self, number_of, (whole, (0, 1), (2, 1)), ("number", (-1, 1), 0))
        check_call(self, number_of, (whole, (199, 100), (201, 100)), ("number", (-2, 1), 0))
        for low, high in [((2, 1), (3, 1)), ((2, 1), (201, 100)), ((199, 100), (2, 1)), ((1, 1), (2, 1)),
                          ((1, 2), (4, 1)), ((1, 2), (5, 2)), ((99, 100), (201, 100)), ((3, 1), (100, 1))]:
            check_state(self, NotOne, number_of, whole, low, high)

    def test_low_not_below_high(self):
        for low, high in [((2, 1), (1, 1)), ((3, 2), (3, 2)), ((5, 1), (0, 1)), ((0, 1), (-5, 1)), ((2, 1), (2, 1))]:
            check_state(self, NotOne, number_of, (-1, -1, 1), low, high)
            check_state(self, NotOne, number_of, (-2, 1), low, high)

    def test_roots_that_are_not_above_nought(self):
        whole = times((0, 1), (2, 1), (-3, 1))
        for low, high in [((-1, 1), (1, 1)), ((-3, 1), (-1, 1)), ((-1, 1), (3, 1)), ((0, 1), (3, 1)), ((-1, 1), (4, 1))]:
            check_state(self, NotOne, number_of, whole, low, high)
        check_call(self, number_of, (whole, (0, 1), (4, 1)), ("number", (-3, 1), 0))
        check_call(self, number_of, ((-2, 0, 1), (-1, 1), (4, 1)), ("number", (-2, 0, 1), 0))
        check_call(self, number_of, ((-2, 0, 1), (-141, 100), (4, 1)), ("number", (-2, 0, 1), 0))
        check_state(self, NotOne, number_of, (-2, 0, 1), (-2, 1), (1, 1))
        check_state(self, NotOne, number_of, (0, 1), (-1, 1), (1, 1))

    def test_not_monic_comes_first(self):
        wide = (-2, 0, 0, 0, 0, 0, 0, 1)
        for polynomial in [(), (1,), (5,), (-1, 2), (1, -1), (-2, 0, 3), tuple([-part for part in wide])]:
            check_state(self, NotMonic, number_of, polynomial, (0, 1), (3, 1))
            check_state(self, NotMonic, number_of, polynomial, (3, 1), (0, 1))

    def test_too_many(self):
        for degree in range(1, 13):
            wide = (-9999,) + (0,) * (degree - 1) + (1,)
            wider = (-10002,) + (0,) * (degree - 1) + (1,)
            args = ((0, 1), (10003, 1))
            check_state(self, NotOne, number_of, wide, (0, 1), (1, 1))
            check_state(self, NotOne, number_of, wider, (0, 1), (1, 1))
            if degree > 6:
                for whole in [wider, (-2,) + wide[1:]]:
                    found = check_state(self, TooMany, number_of, whole, *args)
                    self.assertEqual((found.what, found.limit), ("degree", 6))
            else:
                found = check_state(self, TooMany, number_of, wider, *args)
                self.assertEqual((found.what, found.limit), ("size", 9999))
        check_call(self, number_of, ((-9999, 1), (9998, 1), (10000, 1)), ("number", (-9999, 1), 0))
        for least in [(-9998, 9999, 1), (9997, -9999, 0, 1), (-9999, 9999, -9999, 9999, -9999, 9997, 1)]:
            place = real_roots(least)[0]
            low, high = ratio(Fraction(place - 0.01).limit_denominator(99)), ratio(int(place) + 1)
            check_call(self, number_of, (least, low, high), ("number", least, 0))
        found = check_state(self, TooMany, number_of, (-1, 10000, 1), (0, 1), (1, 1))
        self.assertEqual((found.what, found.limit), ("size", 9999))

    def test_great_parts_that_are_not_wanted(self):
        check_call(self, number_of, (times((-10007, 1), (-2, 1)), (0, 1), (3, 1)), ("number", (-2, 1), 0))
        seven = (-2, 0, 0, 0, 0, 0, 0, 1)
        check_call(self, number_of, (times(seven, (-5, 1)), (2, 1), (6, 1)), ("number", (-5, 1), 0))
        found = check_state(self, TooMany, number_of, times(seven, (-5, 1)), (0, 1), (2, 1))
        self.assertEqual(found.what, "degree")


class Floors(unittest.TestCase):
    def test_floors_of_each_degree(self):
        for number in EACH:
            _, least, position = number
            root = real_roots(least)[position]
            for many in [0, 1, 3, 10, 64, 199, 400]:
                told = number_floor(number, many)
                self.assertAlmostEqual(told / 2 ** many, root, delta=2 ** -many + 1e-6 * root)
                low, high = [worth(least, Fraction(end, 2 ** many)) for end in [told, told + 1]]
                if len(least) == 2:
                    self.assertEqual(low, 0)
                elif many > 60:
                    self.assertLess(low * high, 0)
                check_call(self, number_floor, (number, many), told)

    def test_floors_told_by_square_roots(self):
        for many in [0, 1, 2, 17, 128, 400]:
            for square in [2, 3, 9998]:
                told = isqrt(square << (2 * many))
                check_call(self, number_floor, (("number", (-square, 0, 1), 0), many), told)
            check_call(self, number_floor, (GOLD, many), ((1 << many) + isqrt(5 << (2 * many))) // 2)
            lesser = (3 << many) - isqrt(5 << (2 * many)) - 1
            check_call(self, number_floor, (("number", (1, -3, 1), 1), many), lesser // 2)
            check_call(self, number_floor, (("number", (-7, 1), 0), many), 7 << many)
            check_call(self, number_floor, (("number", (-2, 0, 0, 0, 1), 0), many), isqrt(isqrt(2 << (4 * many))))


class Compared(unittest.TestCase):
    def test_each_two(self):
        floors = {number: number_floor(number, 300) for number in EACH}
        for number, here in floors.items():
            for other, there in floors.items():
                check_call(self, number_compared, (number, other), (here > there) - (here < there))
                self.assertEqual(here == there, number == other)

    def test_neighbours_that_differ_little(self):
        close = ("number", (9997, -9999, 1), 1)
        two = ("number", (-1, 1), 0)
        check_call(self, number_compared, (close, two), -1)
        check_call(self, number_compared, (two, close), 1)
        for least in [(-2, 280, -9800, 0, 0, 0, 1), (-2, 280, -9800, 0, 0, 1), (1, -3, 1), (1, 0, -10, 0, 1)]:
            told = numbers_of(least)
            self.assertGreater(len(told), 1)
            for at, number in enumerate(told):
                for place, other in enumerate(told):
                    check_call(self, number_compared, (number, other), (at < place) - (at > place))

    def test_of_unlike_least_polynomials(self):
        # All of these are near 1 / 70, and alike for many places.
        near = [("number", (-2, 280, -9800) + (0,) * more + (1,), 1 + place) for more in [1, 2, 3] for place in [0, 1]]
        near = [("number", least, position) for _, least, position in near if is_number(("number", least, position))]
        floors = [number_floor(number, 200) for number in near]
        self.assertEqual(len(near), 6)
        self.assertEqual(len(set([number_floor(number, 8) for number in near])), 1)
        for number, here in zip(near, floors):
            for other, there in zip(near, floors):
                check_call(self, number_compared, (number, other), (here > there) - (here < there))

    def test_beside_ratios(self):
        for number in EACH:
            for places in [0, 5, 60, 120]:
                told = number_floor(number, places)
                whole = len(number[1]) == 2
                check_call(self, number_beside, (number, ratio(told, 2 ** places)), 0 if whole else 1)
                check_call(self, number_beside, (number, ratio(told - 1, 2 ** places)), 1)
                check_call(self, number_beside, (number, ratio(told + 1, 2 ** places)), -1)
                check_call(self, number_beside, (number, ratio(3 * told + 1, 3 * 2 ** places)),
                           -1 if whole else self.beside(number, Fraction(3 * told + 1, 3 * 2 ** places)))
            for low in [(0, 1), (-1, 1), (-10 ** 39, 1), (-1, 10 ** 39)]:
                check_call(self, number_beside, (number, low), 1)
            check_call(self, number_beside, (number, (20000, 1)), -1)

    def beside(self, number, place):
        """What number_beside tells of a number of degree 2 or more, by floors with many places."""
        return 1 if number_floor(number, 200) >= place * 2 ** 200 else -1

    def test_beside_other_roots_of_the_same_least_one(self):
        greater, lesser = ("number", (1, -3, 1), 0), ("number", (1, -3, 1), 1)
        for place, one, two in [((1, 3), 1, 1), ((1, 2), 1, -1), ((2, 1), 1, -1), ((27, 10), -1, -1), ((-1, 2), 1, 1)]:
            check_call(self, number_beside, (greater, place), one)
            check_call(self, number_beside, (lesser, place), two)


class Mixes(unittest.TestCase):
    def test_of_square_roots(self):
        chance = random.Random(55)
        for square in [2, 3, 5 * 7, 9998]:
            number = ("number", (-square, 0, 1), 0)
            for size in [1, 3, 100, 10 ** 20, 10 ** 39]:
                for _ in range(6):
                    row = [chance.randint(-size, size), chance.randint(-size, size)]
                    mix = mix_made(number, row, chance.choice([1, -1, 3, 7, size]))
                    for many in [0, 1, 200]:
                        check_call(self, mix_floor, (number, mix, many), plain_mix_floor(mix, square, many))
                    told = plain_mix_floor(mix, square, 400)
                    sign = 0 if not any(mix[0]) else (1 if told >= 0 else -1)
                    check_call(self, mix_sign, (number, mix), sign)

    def test_nought_and_whole_ones(self):
        for number in EACH:
            rest = (0,) * (len(number[1]) - 2)
            check_call(self, mix_sign, (number, ((0,) + rest, 1)), 0)
            for top, under in [(0, 1), (5, 1), (-5, 1), (7, 2), (-7, 2), (1, 10 ** 30), (-1, 10 ** 30), (10 ** 39, 7)]:
                mix = ((top,) + rest, under)
                check_call(self, mix_sign, (number, mix), (top > 0) - (top < 0))
                for many in [0, 1, 200]:
                    check_call(self, mix_floor, (number, mix, many), (top << many) // under)

    def plain_bounds(self, number, mix):
        """Two Fractions between which a mix lies, told by the number's floor with 400 places."""
        low = Fraction(number_floor(number, 400), 2 ** 400)
        high = low + Fraction(1, 2 ** 400)
        below = sum([factor * (low if factor > 0 else high) ** power for power, factor in enumerate(mix[0])])
        above = sum([factor * (high if factor > 0 else low) ** power for power, factor in enumerate(mix[0])])
        return below / mix[1], above / mix[1]

    def test_of_each_degree(self):
        chance = random.Random(56)
        for number in EACH:
            for size in [1, 50, 10 ** 30]:
                row = [chance.randint(-size, size) for _ in number[1][1:]]
                mix = mix_made(number, row, chance.randint(1, size))
                low, high = self.plain_bounds(number, mix)
                if any(mix[0]):
                    self.assertTrue(low > 0 or high < 0 or low == high)
                    check_call(self, mix_sign, (number, mix), 1 if low > 0 else -1)
                for many in [0, 60, 200]:
                    told = (low.numerator << many) // low.denominator
                    if len(number[1]) > 2:
                        self.assertEqual(told, (high.numerator << many) // high.denominator)
                        check_call(self, mix_floor, (number, mix, many), told)

    def test_just_beside_nought(self):
        # The number's mix less its own floor, with more and more places.
        for number in [number for number in EACH if len(number[1]) > 2]:
            rest = (0,) * (len(number[1]) - 3)
            for places in [10, 60, 128, 132, 200, 390]:
                told = number_floor(number, places)
                for more, sign in [(0, 1), (1, -1)]:
                    mix = mix_made(number, (-told - more, 2 ** places) + rest, 1)
                    check_call(self, mix_sign, (number, mix), sign)
                    check_call(self, mix_floor, (number, mix, 0), -1 if sign < 0 else 0)

    def test_powers_that_are_nearly_whole(self):
        lucas = [2, 1]
        for _ in range(400):
            lucas.append(lucas[-1] + lucas[-2])
        for power in [1, 2, 59, 60, 199, 200, 201, 399, 400]:
            told = power_mix(GOLD, power)
            left = mix_minus(GOLD, told, ((lucas[power], 0), 1))
            # The rest is the lesser root to this power, with the other sign.
            sign = -1 if power % 2 == 0 else 1
            check_call(self, mix_sign, (GOLD, left), sign)
            check_call(self, mix_floor, (GOLD, told, 0), lucas[power] - (1 if sign < 0 else 0))
            check_call(self, mix_floor, (GOLD, left, 0), -1 if sign < 0 else 0)

    def test_whole_by_its_worth_alone(self):
        four = ("number", (-2, 0, 0, 0, 1), 0)
        check_call(self, mix_sign, (four, mix_minus(four, power_mix(four, 8), ((4, 0, 0, 0), 1))), 0)
        check_call(self, mix_floor, (four, power_mix(four, 40), 200), 1024 << 200)
        check_call(self, mix_floor, (four, power_mix(four, 41), 0), 1217)
        check_call(self, mix_floor, (("number", (-7, 1), 0), ((22,), 7), 3), 25)


class Wrong(unittest.TestCase):
    def test_wrong_values(self):
        check_wrong(self, number_of, ((-2, 0, 1), (0, 1), (2, 1)), [BAD_POLYNOMIAL, BAD_RATIO, BAD_RATIO])
        check_wrong(self, number_floor, (GOLD, 3), [BAD_NUMBER, bad_many(400)])
        check_wrong(self, number_compared, (GOLD, GOLD), [BAD_NUMBER, BAD_NUMBER])
        check_wrong(self, number_beside, (GOLD, (1, 2)), [BAD_NUMBER, BAD_RATIO])
        check_wrong(self, mix_sign, (GOLD, ((1, 1), 2)), [BAD_NUMBER, bad_mix(2)])
        check_wrong(self, mix_floor, (GOLD, ((1, 1), 2), 2), [BAD_NUMBER, bad_mix(2), bad_many(200)])

    def test_parameters_come_before_what_they_are_together(self):
        check_state(self, InvalidRatio, number_of, (1, 2), (2, 2), (2, 1))
        check_state(self, InvalidRatio, number_of, (1, 2), (3, 1), (2, 2))
        check_state(self, NotMonic, number_of, (1, 2), (3, 1), (2, 1))
        check_state(self, InvalidNumber, number_beside, ("number", (-1, 1), 1), (2, 2))


if __name__ == "__main__":
    unittest.main()
