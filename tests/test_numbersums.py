"""Sums, products, powers and roots of NUMBERS [57]."""

import unittest

from helpers import BAD_NUMBER, bad_many, check_call, check_state, check_wrong, real_roots

from whichpaces.errors import InvalidMany, InvalidNumber, TooMany
from whichpaces.numbers import is_number, number_floor
from whichpaces.numbersums import number_power, number_product, number_root, number_sum

PLACES = 300
LEAST = [
    (-1, 1), (-3, 1), (-10, 1), (-2, 0, 1), (-8, 0, 1), (-1, -1, 1), (1, -3, 1), (2, -4, 1), (-5, 5, 1), (-99, -7, 1),
    (-1, -1, 0, 1), (-2, 0, 0, 1), (1, -3, 0, 1), (-1, 1, -2, 1), (1, 0, -10, 0, 1), (-2, 0, 0, 0, 1),
    (1, -1, 0, 0, -3, 1), (-2, 0, 0, 0, 0, 1), (-2, 0, 0, 0, 0, 0, 1), (1, 0, -9, 0, 6, 0, 1), (-3, 1, 0, 0, 0, -1, 1),
]
NUMBERS = [
    ("number", least, position) for least in LEAST
    for position in range(len([root for root in real_roots(least) if root > 0]))
]
GOLD, ROOT = ("number", (-1, -1, 1), 0), ("number", (-2, 0, 1), 0)


def whole(many):
    """An integer as a number."""
    return "number", (-many, 1), 0


def degree_of(number):
    """The degree of a number."""
    return len(number[1]) - 1


def seen(number):
    """The floor of a number with many places."""
    return number_floor(number, PLACES)


class Told(unittest.TestCase):
    def check_told(self, told, low, high):
        """A number lies from low on and below high, both divided by a power of 2."""
        self.assertIs(is_number(told), True)
        self.assertGreaterEqual(seen(told), low)
        self.assertLessEqual(seen(told), high)

    def tried(self, function, *args):
        """What the function returns, twice the same; None where its numbers are too great."""
        try:
            told = function(*args)
        except TooMany as wrong:
            self.assertEqual((wrong.what, wrong.limit), ("size", 9999))
            return None
        check_call(self, function, args, told)
        return told

    def test_sums_against_floors(self):
        for number in NUMBERS:
            for other in NUMBERS:
                if degree_of(number) * degree_of(other) <= 6:
                    told = self.tried(number_sum, number, other)
                    low = seen(number) + seen(other)
                    if told is not None:
                        self.check_told(told, low, low + 1)
                        self.assertLessEqual(degree_of(told), degree_of(number) * degree_of(other))

    def test_products_against_floors(self):
        for number in NUMBERS:
            for other in NUMBERS:
                if degree_of(number) * degree_of(other) <= 6:
                    told = self.tried(number_product, number, other)
                    low = seen(number) * seen(other)
                    high = (seen(number) + 1) * (seen(other) + 1)
                    if told is not None:
                        self.check_told(told, low >> PLACES, (high >> PLACES) + 1)
                        self.assertLessEqual(degree_of(told), degree_of(number) * degree_of(other))

    def test_powers_against_floors(self):
        for number in NUMBERS:
            for many in range(1, 13):
                told = self.tried(number_power, number, many)
                if told is not None:
                    low, high = seen(number), seen(number) + 1
                    for _ in range(many - 1):
                        low, high = low * seen(number) >> PLACES, (high * (seen(number) + 1) >> PLACES) + 1
                    self.check_told(told, low, high)
                    self.assertEqual(degree_of(number) % degree_of(told), 0)

    def test_roots_against_floors(self):
        for number in NUMBERS:
            for many in range(1, 7):
                if degree_of(number) * many <= 6:
                    told = number_root(number, many)
                    check_call(self, number_root, (number, many), told)
                    self.assertEqual(degree_of(told) % degree_of(number), 0)
                    power = number_floor(told, 350) ** many, (number_floor(told, 350) + 1) ** many
                    self.assertLessEqual(power[0] >> 350 * many, number_floor(number, 0))
                    self.assertLessEqual(power[0] >> 350 * many - PLACES, seen(number))
                    self.assertGreaterEqual(power[1] >> 350 * many - PLACES, seen(number))
                    self.assertEqual(number_power(told, many), number)

    def test_sums_and_products_turned_about(self):
        for number in NUMBERS:
            for other in [whole(1), whole(7), ROOT, GOLD]:
                if degree_of(number) * degree_of(other) <= 6:
                    self.assertEqual(self.tried(number_sum, number, other), self.tried(number_sum, other, number))
                    told = self.tried(number_product, number, other)
                    self.assertEqual(told, self.tried(number_product, other, number))

    def test_known_ones(self):
        greater, lesser = ("number", (1, -3, 1), 0), ("number", (1, -3, 1), 1)
        check_call(self, number_sum, (greater, lesser), whole(3))
        check_call(self, number_product, (greater, lesser), whole(1))
        check_call(self, number_sum, (greater, greater), ("number", (4, -6, 1), 0))
        check_call(self, number_sum, (lesser, lesser), ("number", (4, -6, 1), 1))
        check_call(self, number_product, (GOLD, GOLD), greater)
        check_call(self, number_sum, (GOLD, whole(1)), greater)
        check_call(self, number_product, (GOLD, ("number", (-1, 1, 1), 0)), whole(1))
        check_call(self, number_sum, (GOLD, ("number", (-1, 1, 1), 0)), ("number", (-5, 0, 1), 0))
        check_call(self, number_sum, (ROOT, ("number", (-8, 0, 1), 0)), ("number", (-18, 0, 1), 0))
        check_call(self, number_product, (ROOT, ("number", (-8, 0, 1), 0)), whole(4))
        check_call(self, number_sum, (whole(2), whole(3)), whole(5))
        check_call(self, number_product, (whole(2), whole(3)), whole(6))
        check_call(self, number_sum, (ROOT, ROOT), ("number", (-8, 0, 1), 0))
        check_call(self, number_sum, (ROOT, ("number", (-2, 0, 0, 1), 0)), ("number", (-4, -24, 12, -4, -6, 0, 1), 0))
        check_call(self, number_product, (ROOT, ("number", (-2, 0, 0, 1), 0)), ("number", (-32, 0, 0, 0, 0, 0, 1), 0))

    def test_sums_whose_position_is_not_the_first(self):
        one, two = ("number", (2, -4, 1), 1), ("number", (1, -3, 1), 1)
        check_call(self, number_sum, (one, two), ("number", self.plain_sum(), 3))

    def test_neighbours_that_differ_little(self):
        # Both roots are near 1 / 40, near 1 / 70, and alike for 16 places.
        for position in [1, 2]:
            near = ("number", (-2, 160, -3200, 0, 1), position)
            check_call(self, number_sum, (near, whole(1)), ("number", (-3361, 6556, -3194, -4, 1), position))
            near = ("number", (-2, 280, -9800, 0, 1), position)
            for function in [number_power, number_root]:
                check_call(self, function, (near, 1), near)
            check_call(self, number_product, (near, whole(1)), near)
            check_call(self, number_product, (whole(1), near), near)

    def plain_sum(self):
        """The polynomial of all sums of 2 + s, s s = 2, and 1.5 + r, r r = 5 / 4: u = t - 3.5."""
        # u ** 4 - 2 (2 + 5 / 4) u ** 2 + (2 - 5 / 4) ** 2, told in t.
        square = (49, -28, 4)
        fourth = [0] * 5
        for power, factor in enumerate(square):
            for place, more in enumerate(square):
                fourth[power + place] += factor * more
        for power, factor in enumerate(square):
            fourth[power] -= 26 * factor
        fourth[0] += 9
        self.assertTrue(all([number % 16 == 0 for number in fourth]))
        return tuple([number // 16 for number in fourth])


class Limits(unittest.TestCase):
    def test_degrees_whose_product_is_too_great(self):
        for number in NUMBERS:
            for other in NUMBERS:
                if degree_of(number) * degree_of(other) > 6:
                    for function in [number_sum, number_product]:
                        found = check_state(self, TooMany, function, number, other)
                        self.assertEqual((found.what, found.limit), ("degree", 6))

    def test_a_root_whose_product_of_degrees_is_six(self):
        three = ("number", (-2, 0, 0, 1), 0)
        self.assertEqual(degree_of(number_sum(three, ROOT)), 6)
        self.assertEqual(degree_of(number_product(three, ROOT)), 6)
        self.assertEqual(number_sum(whole(1), ("number", (-2, 0, 0, 0, 0, 0, 1), 0))[1][0], -1)

    def check_size(self, function, *args):
        """The call tells that what would be told is too great."""
        found = check_state(self, TooMany, function, *args)
        self.assertEqual((found.what, found.limit), ("size", 9999))

    def test_sizes(self):
        check_call(self, number_sum, (whole(9998), whole(1)), whole(9999))
        self.check_size(number_sum, whole(9999), whole(1))
        self.check_size(number_sum, whole(9999), whole(9999))
        check_call(self, number_product, (whole(99), whole(101)), whole(9999))
        self.check_size(number_product, whole(100), whole(100))
        self.check_size(number_product, ("number", (-9999, 0, 1), 0), ROOT)
        check_call(self, number_product, (("number", (-9999, 0, 1), 0),) * 2, whole(9999))
        self.check_size(number_product, ("number", (-9999, 0, 1), 0), whole(2))
        check_call(self, number_power, (whole(9999), 1), whole(9999))
        self.check_size(number_power, whole(100), 2)
        check_call(self, number_power, (whole(99), 2), whole(9801))
        check_call(self, number_power, (whole(2), 12), whole(4096))
        self.check_size(number_power, whole(3), 12)
        check_call(self, number_power, (("number", (-9999, 0, 1), 0), 2), whole(9999))
        self.check_size(number_power, ("number", (-9999, 0, 1), 0), 3)

    def test_powers_that_are_small_though_much_is_reckoned(self):
        six = ("number", (-2, 0, 0, 0, 0, 0, 1), 0)
        check_call(self, number_power, (six, 12), whole(4))
        check_call(self, number_power, (six, 9), ("number", (-8, 0, 1), 0))
        check_call(self, number_power, (six, 4), ("number", (-4, 0, 0, 1), 0))
        check_call(self, number_power, (("number", (-9999, 0, 0, 0, 0, 0, 1), 0), 6), whole(9999))
        self.check_size(number_power, ("number", (-9999, 0, 0, 0, 0, 0, 1), 0), 12)
        check_call(self, number_power, (("number", (-3, 0, 0, 0, 0, 0, 1), 0), 12), whole(9))
        check_call(self, number_power, (GOLD, 12), ("number", (1, -322, 1), 0))
        check_call(self, number_power, (("number", (1, -3, 1), 1), 4), ("number", (1, -47, 1), 1))
        check_call(self, number_power, (("number", (1, 0, -10, 0, 1), 1), 2), ("number", (1, -10, 1), 1))

    def test_roots(self):
        check_call(self, number_root, (whole(4), 2), whole(2))
        check_call(self, number_root, (whole(2), 1), whole(2))
        check_call(self, number_root, (whole(64), 6), whole(2))
        check_call(self, number_root, (whole(8), 6), ROOT)
        check_call(self, number_root, (whole(4), 6), ("number", (-2, 0, 0, 1), 0))
        check_call(self, number_root, (whole(2), 6), ("number", (-2, 0, 0, 0, 0, 0, 1), 0))
        check_call(self, number_root, (("number", (1, -3, 1), 0), 2), GOLD)
        check_call(self, number_root, (("number", (1, -3, 1), 1), 2), ("number", (-1, 1, 1), 0))
        check_call(self, number_root, (("number", (1, -7, 1), 0), 4), GOLD)
        check_call(self, number_root, (("number", (1, -47, 1), 1), 2), ("number", (1, -7, 1), 1))
        check_call(self, number_root, (("number", (1, -10, 1), 1), 2), ("number", (1, 0, -10, 0, 1), 1))
        check_call(self, number_root, (ROOT, 3), ("number", (-2, 0, 0, 0, 0, 0, 1), 0))
        # 1.618.. to the power 6 is the greater root of t t - 18 t + 1.
        check_call(self, number_root, (("number", (1, -18, 1), 0), 6), GOLD)

    def test_roots_that_are_too_great(self):
        for number, many in [(GOLD, 4), (ROOT, 5), (ROOT, 6), (("number", (-1, -1, 0, 1), 0), 3)]:
            found = check_state(self, TooMany, number_root, number, many)
            self.assertEqual((found.what, found.limit), ("degree", 6))
        for least, many in [((-1, -1, 0, 1), 5), ((-2, 0, 0, 0, 1), 4), ((-2, 0, 0, 0, 0, 0, 1), 3),
                            ((-2, 0, 0, 0, 0, 1), 3)]:
            found = check_state(self, TooMany, number_root, ("number", least, 0), many)
            self.assertEqual((found.what, found.limit), ("degree", 12))
        found = check_state(self, TooMany, number_root, ("number", (-2, 0, 0, 0, 0, 0, 1), 0), 2)
        self.assertEqual((found.what, found.limit), ("degree", 6))


class Wrong(unittest.TestCase):
    def test_wrong_values(self):
        check_wrong(self, number_sum, (GOLD, GOLD), [BAD_NUMBER, BAD_NUMBER])
        check_wrong(self, number_product, (GOLD, GOLD), [BAD_NUMBER, BAD_NUMBER])
        check_wrong(self, number_power, (GOLD, 2), [BAD_NUMBER, bad_many(12, 1)])
        check_wrong(self, number_root, (GOLD, 2), [BAD_NUMBER, bad_many(6, 1)])

    def test_what_comes_first(self):
        five = ("number", (-2, 0, 0, 0, 0, 1), 0)
        check_state(self, InvalidNumber, number_sum, five, ("number", (-2, 0, 0, 0, 0, 1), 1))
        check_state(self, InvalidMany, number_root, five, 7)
        check_state(self, InvalidMany, number_power, whole(9999), 13)
        check_state(self, InvalidMany, number_power, whole(9999), 0)


if __name__ == "__main__":
    unittest.main()
