"""Least parts [5], [42], [43]."""

import random
import unittest
from itertools import product

from helpers import BAD_POLYNOMIAL, check_call, check_state, check_wrong, times, worth

from whichpaces.errors import InvalidPolynomial, NotMonic
from whichpaces.parts import is_least, parts_of
from whichpaces.residues import residue_degrees

# Eisenstein's, those of roots of unity, sums of square roots: known to be least.
LEAST = [
    (0, 1), (1, 1), (-1, 1), (10 ** 6, 1), (-999983, 1), (1, 0, 1), (1, 1, 1), (1, -1, 1), (-2, 0, 1), (1, -3, 1),
    (-10 ** 6 + 1, 0, 1), (-1, -1, 0, 1), (-2, 0, 0, 1), (6, -9, 3, 1), (1, 0, 0, 0, 1), (1, 0, -1, 0, 1),
    (1, 0, -10, 0, 1), (1, 1, 1, 1, 1), (-2, 0, 0, 0, 0, 1), (1, -1, 0, 0, 0, 1), (1,) * 7, (1, 0, 0, 1, 0, 0, 1),
    (1, 0, 0, 0, 0, 0, 0, 0, 1), (1, 0, -1, 0, 1, 0, -1, 0, 1), (576, 0, -960, 0, 352, 0, -40, 0, 1),
    (1, -1, 0, 1, -1, 1, 0, -1, 1), (1,) * 11, (1,) * 13, (1, -1, 0, 1, -1, 0, 1, 0, -1, 1, 0, -1, 1),
    (1, 0, -1, 0, 1, 0, -1, 0, 1, 0, -1, 0, 1), (1, 0, 0, 0, 0, 0, -1, 0, 0, 0, 0, 0, 1),
    (-2,) + (0,) * 11 + (1,), (10 ** 6 - 1,) + (0,) * 11 + (1,), (6, 10 ** 6 - 4) + (-10 ** 6 + 16,) * 10 + (1,),
]
NO_PRIME_SHOWS = [
    (1, 0, 0, 0, 1), (1, 0, -10, 0, 1), (1, 0, -1, 0, 1), (1, 0, 0, 0, 0, 0, 0, 0, 1), (1, 0, -1, 0, 1, 0, -1, 0, 1),
    (576, 0, -960, 0, 352, 0, -40, 0, 1), (1, -1, 0, 1, -1, 0, 1, 0, -1, 1, 0, -1, 1),
    (1, 0, -1, 0, 1, 0, -1, 0, 1, 0, -1, 0, 1), (1, 0, 0, 0, 0, 0, -1, 0, 0, 0, 0, 0, 1),
]


def lots_of(seed, many):
    """Lots of least polynomials, some of them often, whose product is a POLYNOMIAL."""
    chance = random.Random(seed)
    found = []
    while len(found) < many:
        lot = [chance.choice(LEAST) for _ in range(chance.randint(1, 6))]
        row = times(*lot)
        if len(row) <= 13 and max([abs(number) for number in row]) <= 10 ** 6:
            found.append((row, lot))
    return found


def has_whole_root(row):
    """Whether a monic polynomial with small numbers has a root that is an integer."""
    return any([worth(row, number) == 0 for number in range(-9, 10)])


def is_of_two_pairs(row):
    """Whether a monic polynomial of degree 4 with small numbers is a product of two of degree 2."""
    for one in product(range(-9, 10), repeat=2):
        middle = row[3] - one[1]
        low = row[2] - one[0] - one[1] * middle
        if one[0] * low == row[0] and one[0] * middle + one[1] * low == row[1]:
            return True
    return False


def times_divided(row):
    """A polynomial with the root 1, divided by t - 1."""
    return tuple([-sum(row[:power + 1]) for power in range(len(row) - 1)])


def listed(lot):
    """What parts_of tells of the product of a lot."""
    return [(part, lot.count(part)) for part in sorted(set(lot))]


class Parts(unittest.TestCase):
    def test_least_ones(self):
        for row in LEAST:
            check_call(self, parts_of, (row,), [(row, 1)])
            check_call(self, is_least, (row,), True)

    def test_products(self):
        for row, lot in lots_of(1, 150):
            check_call(self, parts_of, (row,), listed(lot))
            check_call(self, is_least, (row,), len(lot) == 1)

    def test_often(self):
        for part, many in [((0, 1), 12), ((-1, 1), 12), ((-3, 1), 12), ((1, 1, 1), 6), ((1, 0, 0, 0, 1), 3),
                           ((1, 0, -10, 0, 1), 3), ((-1, -1, 0, 1), 4), ((1, -1, 0, 0, 0, 1), 2)]:
            row = times(*[part] * many)
            if max([abs(number) for number in row]) <= 10 ** 6:
                check_call(self, parts_of, (row,), [(part, many)])
                check_call(self, is_least, (row,), False)

    def test_each_short_one(self):
        for low in list(product(range(-4, 5), repeat=2)) + list(product(range(-4, 5), repeat=3)):
            self.assertIs(is_least(low + (1,)), not has_whole_root(low + (1,)), low)
        for low in product([-4, -2, -1, 0, 1, 3, 4], repeat=4):
            row = low + (1,)
            self.assertIs(is_least(row), not has_whole_root(row) and not is_of_two_pairs(row), low)

    def test_those_that_no_prime_shows(self):
        for row in NO_PRIME_SHOWS:
            degree = len(row) - 1
            shown = [sums for sums in range(1, degree)]
            for prime in [2, 3, 5, 7, 11, 13]:
                shown = [total for total in shown if total in lot_sums(residue_degrees(row, prime), degree)]
            self.assertNotEqual(shown, [], row)
            check_call(self, is_least, (row,), True)

    def test_many_parts_modulo_each_prime(self):
        row = times((1, 0, 0, 0, 1), (1, 0, -10, 0, 1), (1, 0, -1, 0, 1))
        check_call(self, parts_of, (row,), [((1, 0, -10, 0, 1), 1), ((1, 0, -1, 0, 1), 1), ((1, 0, 0, 0, 1), 1)])
        row = (-1,) + (0,) * 11 + (1,)
        lot = [(-1, 1), (1, 1), (1, 1, 1), (1, 0, 1), (1, -1, 1), (1, 0, -1, 0, 1)]
        check_call(self, parts_of, (row,), listed(lot))
        row = (1,) + (0,) * 11 + (1,)
        check_call(self, parts_of, (row,), listed([(1, 0, 0, 0, 1), (1, 0, 0, 0, -1, 0, 0, 0, 1)]))
        roots = [(-number, 1) for number in range(-6, 6) if number]
        check_call(self, parts_of, (times(*roots[:9]),), listed(roots[:9]))

    def test_primes_that_leave_doubles(self):
        # Modulo each prime to 17 both have a double part.
        check_call(self, parts_of, ((-510510, 0, 1),), [((-510510, 0, 1), 1)])
        check_call(self, parts_of, ((0, -510510, 0, 1),), [((-510510, 0, 1), 1), ((0, 1), 1)])
        check_call(self, parts_of, (times((0, 1), (-30030, 1), (1, 1)),),
                   [((-30030, 1), 1), ((0, 1), 1), ((1, 1), 1)])

    def test_powers_of_great_numbers(self):
        check_call(self, parts_of, ((-10 ** 6, 0, 1),), listed([(1000, 1), (-1000, 1)]))
        check_call(self, parts_of, ((250000, 0, 0, 0, 1),), [((250000, 0, 0, 0, 1), 1)])
        check_call(self, parts_of, ((640000, 0, 0, 0, 1),), listed([(800, 40, 1), (800, -40, 1)]))
        row = (-5 ** 8,) + (0,) * 7 + (1,)
        check_call(self, parts_of, (row,), listed([(5, 1), (-5, 1), (25, 0, 1), (625, 0, 0, 0, 1)]))

    def test_parts_with_greater_numbers_than_may_be_passed(self):
        row = tuple([10 ** 6 - less for less in [1, 3, 0, 7, 0, 2]])
        row += tuple([more - 10 ** 6 for more in [5, 0, 4, 0, 1, 2]]) + (1,)
        self.assertLess(min(times_divided(row)), -5 * 10 ** 6)
        check_call(self, parts_of, (row,), [(times_divided(row), 1), ((-1, 1), 1)])

    def test_multiplied_they_give_the_whole(self):
        chance = random.Random(2)
        for _ in range(60):
            row = tuple([chance.randint(-10 ** 6, 10 ** 6) for _ in range(chance.randint(1, 12))]) + (1,)
            told = parts_of(row)
            self.assertEqual(told, sorted(told))
            self.assertEqual(times(*[part for part, many in told for _ in range(many)]), row)
            self.assertEqual([is_least(part) for part, _ in told], [True] * len(told))


def lot_sums(degrees, degree):
    """The sums of the lots of the degrees; all of them where a double part tells nothing."""
    if degrees is None:
        return list(range(degree + 1))
    sums = {0}
    for one in degrees:
        sums |= {total + one for total in sums}
    return sums


class Edges(unittest.TestCase):
    def test_no_least_ones(self):
        for row in [(), (1,), (-1,), (7,), (2, 2), (1, 2), (1, -1), (0, -1), (-2, 0, 2), (1, 0, -1), (0, 0, 1),
                    (0,) * 12 + (1,), (-1, 0, 1), (4, 0, 0, 0, 1), (1, 2, 1), (10 ** 6,) * 13]:
            check_call(self, is_least, (row,), False)

    def test_wrong_values(self):
        check_wrong(self, parts_of, ((1, 0, 1),), [BAD_POLYNOMIAL])
        check_wrong(self, is_least, ((1, 0, 1),), [BAD_POLYNOMIAL])

    def test_not_monic(self):
        for row in [(), (1,), (-1,), (5,), (1, 2), (1, -1), (1, 0, 10 ** 6)]:
            check_state(self, NotMonic, parts_of, row)
        check_state(self, InvalidPolynomial, parts_of, (1, 0))


if __name__ == "__main__":
    unittest.main()
