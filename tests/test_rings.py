"""Roots counted in rings [31] to [34]."""

import random
import unittest
from fractions import Fraction

from helpers import BAD_POLYNOMIAL, NO_RATIOS, bad_many, check_call, check_state, check_wrong, ratio, times

from whichpaces.errors import InvalidMany, InvalidPolynomial, InvalidRatio, IsNought, NoRoots
from whichpaces.rings import ring_count, size_floor

TINY = Fraction(1, 10 ** 39)
BAD_RING = (InvalidRatio, NO_RATIOS + [(0, 1), (-1, 1), (-1, 2), (-10 ** 40 + 1, 3)])

# Factors: how many roots they have, and the power and the worth of it to which the size of each comes.
FACTORS = [
    ((0, 1), 1, 1, Fraction(0)),
    ((-3, 1), 1, 1, Fraction(3)),
    ((3, 1), 1, 1, Fraction(3)),
    ((-1, 2), 1, 1, Fraction(1, 2)),
    ((22, 7), 1, 1, Fraction(22, 7)),
    ((9, 0, 1), 2, 2, Fraction(9)),
    ((9, 1, 1), 2, 2, Fraction(9)),
    ((5, 2, 1), 2, 2, Fraction(5)),
    ((1, -1, 4), 2, 2, Fraction(1, 4)),
    ((1, 1, 1), 2, 2, Fraction(1)),
    ((-2, 0, 1), 2, 2, Fraction(2)),
    ((-2, 0, 0, 1), 3, 3, Fraction(2)),
    ((7, 0, 0, 0, 3), 4, 4, Fraction(7, 3)),
    ((-1, 0, 0, 0, 0, 1), 5, 5, Fraction(1)),
    ((-1000000, 1), 1, 1, Fraction(1000000)),
    ((1, 999999), 1, 1, Fraction(1, 999999)),
]
RINGS = [Fraction(1), Fraction(1, 2), Fraction(3), Fraction(22, 7), Fraction(3, 2), Fraction(1, 10 ** 39), Fraction(10 ** 39)]


def products(seed, many):
    """Polynomials made of factors, some of which stand often."""
    chance = random.Random(seed)
    found = []
    while len(found) < many:
        chosen = [chance.choice(FACTORS) for _ in range(chance.randint(1, 8))]
        row = times((chance.choice([1, -1, 3, -2]),), *[factor[0] for factor in chosen])
        if len(row) <= 13 and max([abs(number) for number in row]) <= 10 ** 6:
            found.append((row, chosen))
    return found


def plain_count(chosen, ring):
    """What ring_count tells of a product of factors."""
    counts = [0, 0, 0]
    for _, many, power, worth in chosen:
        side = ring ** power
        counts[1 + (worth > side) - (worth < side)] += many
    return tuple(counts)


def plain_floor(chosen, places):
    """What size_floor tells of a product of factors."""
    floors = []
    for _, _, power, worth in chosen:
        low, high = 0, 2 ** 21 << places
        while high - low > 1:
            middle = (low + high) // 2
            if Fraction(middle, 2 ** places) ** power <= worth:
                low = middle
            else:
                high = middle
        floors.append(low)
    return max(floors)


def all_within(row, ring):
    """Whether all roots lie within the ring, told by Schur's steps alone."""
    row = [number * ring ** power for power, number in enumerate(row)]
    while len(row) > 1:
        if abs(row[0]) >= abs(row[-1]):
            return False
        row = [row[-1] * number - row[0] * other for number, other in zip(row, row[::-1])][1:]
        row = [number / row[-1] for number in row]
    return True


def all_beyond(row, ring):
    """Whether all roots lie beyond the ring."""
    return row[0] != 0 and all_within(row[::-1], 1 / ring)


def some_row(chance, degree, size):
    """A polynomial of the degree."""
    return tuple([chance.randint(-size, size) for _ in range(degree)] + [chance.choice([1, -1, size])])


class Rings(unittest.TestCase):
    def test_products(self):
        for row, chosen in products(1, 60):
            for ring in RINGS:
                check_call(self, ring_count, (row, ratio(ring)), plain_count(chosen, ring))

    def test_just_beside(self):
        for row, chosen in products(2, 20):
            for ring in [Fraction(1), Fraction(3), Fraction(1, 2)]:
                for told in [ring - TINY, ring + TINY]:
                    check_call(self, ring_count, (row, ratio(told)), plain_count(chosen, told))

    def test_rings_through_roots(self):
        check_call(self, ring_count, ((-3, 1), (3, 1)), (0, 1, 0))
        check_call(self, ring_count, ((3, 1), (3, 1)), (0, 1, 0))
        check_call(self, ring_count, ((9, 1, 1), (3, 1)), (0, 2, 0))
        check_call(self, ring_count, (times((-3, 1), (-3, 1), (3, 1), (9, 1, 1), (9, 1, 1)), (3, 1)), (0, 7, 0))
        check_call(self, ring_count, (times((-3, 1), (9, 1, 1), (-2, 1), (0, 1), (17, 1, 1)), (3, 1)), (2, 3, 2))
        check_call(self, ring_count, ((-1,) + (0,) * 11 + (1,), (1, 1)), (0, 12, 0))
        check_call(self, ring_count, ((4096,) + (0,) * 11 + (1,), (2, 1)), (0, 12, 0))
        check_call(self, ring_count, (times((1, -1, 1), (1, -1, 1), (-1, 1), (1, 1)), (1, 1)), (0, 6, 0))

    def test_pairs_one_within_and_one_beyond(self):
        check_call(self, ring_count, ((2, -5, 2), (1, 1)), (1, 0, 1))
        check_call(self, ring_count, ((2, 5, 2), (1, 1)), (1, 0, 1))
        check_call(self, ring_count, (times((2, -5, 2), (2, -5, 2), (-3, 1)), (1, 1)), (2, 0, 3))
        pairs = times((5, -2, 1), (1, -2, 5))
        check_call(self, ring_count, (pairs, (1, 1)), (2, 0, 2))
        check_call(self, ring_count, (times(pairs, pairs, (1, 0, 1), (0, 1)), (1, 1)), (5, 2, 4))
        check_call(self, ring_count, (times((2, -5, 2), (-1, 1), (1, 1), (1, 1, 1), (-4, 1)), (1, 1)), (1, 4, 2))

    def test_nought_as_a_root(self):
        check_call(self, ring_count, ((0, 1), (1, 10 ** 39)), (1, 0, 0))
        check_call(self, ring_count, ((0,) * 12 + (-7,), (1, 10 ** 39)), (12, 0, 0))
        check_call(self, ring_count, ((0, 0, 0, -1, 1), (1, 1)), (3, 1, 0))

    def test_degree_nought(self):
        for row in [(1,), (-7,), (10 ** 6,)]:
            for ring in RINGS:
                check_call(self, ring_count, (row, ratio(ring)), (0, 0, 0))

    def test_against_schur(self):
        chance = random.Random(3)
        for _ in range(80):
            row = some_row(chance, chance.randint(1, 8), 5)
            for ring in [Fraction(1, 3), Fraction(1, 2), Fraction(1), Fraction(3, 2), Fraction(5, 2)]:
                within, on, beyond = ring_count(row, ratio(ring))
                self.assertEqual(within + on + beyond, len(row) - 1)
                self.assertGreaterEqual(min(within, on, beyond), 0)
                self.assertEqual(within == len(row) - 1, all_within(row, ring))
                self.assertEqual(beyond == len(row) - 1, all_beyond(row, ring))

    def test_joined_ones_add_up(self):
        chance = random.Random(4)
        for _ in range(40):
            row, other = some_row(chance, 5, 30), some_row(chance, 4, 30)
            for ring in [(1, 1), (2, 3), (30, 7)]:
                counts = [one + two for one, two in zip(ring_count(row, ring), ring_count(other, ring))]
                self.assertEqual(ring_count(times(row, other), ring), tuple(counts))

    def test_turned_about(self):
        chance = random.Random(5)
        for _ in range(40):
            row = some_row(chance, chance.randint(1, 12), 10 ** 6)
            if row[0]:
                for ring in [(1, 1), (2, 3), (10 ** 40 - 1, 10 ** 39)]:
                    turned = ring_count(row[::-1], ring[::-1])
                    self.assertEqual(ring_count(row, ring), turned[::-1])


class Sizes(unittest.TestCase):
    def test_products(self):
        for row, chosen in products(6, 25):
            for many in [0, 1, 9]:
                check_call(self, size_floor, (row, many), plain_floor(chosen, many))
            if len(row) < 8:
                check_call(self, size_floor, (row, 60), plain_floor(chosen, 60))

    def test_all_roots_nought(self):
        for row in [(0, 1), (0, 0, 5), (0,) * 12 + (-1,)]:
            for many in [0, 1, 60]:
                check_call(self, size_floor, (row, many), 0)

    def test_just_whole_at_that_many_places(self):
        for number in range(1, 12):
            for many in range(5):
                check_call(self, size_floor, ((number, 8), many), number * 2 ** many // 8)
                check_call(self, size_floor, ((number * number, 0, 64), many), number * 2 ** many // 8)
        check_call(self, size_floor, ((-1000000, 1), 60), 10 ** 6 * 2 ** 60)
        check_call(self, size_floor, ((-3, 0, 0, 2 ** 18), 60), plain_floor([(None, 3, 3, Fraction(3, 2 ** 18))], 60))

    def test_great_degrees(self):
        chance = random.Random(7)
        rows = [some_row(chance, 12, 10 ** 6) for _ in range(3)]
        for row in rows + [(10 ** 6,) * 12 + (1,), (-10 ** 6,) * 12 + (1,)]:
            for many in [0, 20]:
                floor = size_floor(row, many)
                self.assertTrue(all_within(row, Fraction(floor + 1, 2 ** many)))
                self.assertFalse(floor and all_within(row, Fraction(floor, 2 ** many)))
        check_call(self, size_floor, ((10 ** 6,) * 12 + (1,), 0), 999998)
        check_call(self, size_floor, ((-10 ** 6,) * 12 + (1,), 0), 1000000)


class Wrong(unittest.TestCase):
    def test_wrong_values(self):
        check_wrong(self, ring_count, ((1, -3, 1), (1, 2)), [BAD_POLYNOMIAL, BAD_RING])
        check_wrong(self, size_floor, ((1, -3, 1), 3), [BAD_POLYNOMIAL, bad_many(60)])

    def test_nought_comes_behind(self):
        check_state(self, IsNought, ring_count, (), (1, 2))
        check_state(self, InvalidRatio, ring_count, (), (0, 1))
        check_state(self, InvalidRatio, ring_count, (), (-1, 2))
        check_state(self, InvalidPolynomial, ring_count, [], (0, 1))

    def test_no_roots_come_behind(self):
        for row in [(), (1,), (-10 ** 6,)]:
            for many in [0, 60]:
                check_state(self, NoRoots, size_floor, row, many)
            check_state(self, InvalidMany, size_floor, row, 61)
            check_state(self, InvalidMany, size_floor, row, False)


if __name__ == "__main__":
    unittest.main()
