"""RATIOS between the paces of two tables [113], [114]."""

import random
import unittest

from helpers import BAD_TABLE, NO_RATIOS, check_call, check_state, check_wrong, ratio
from sometables import about, exchanged, own, plain_pace, product, some_table

from whichpaces.between import is_between, paces_compared, ratio_between
from whichpaces.errors import NotTogether, TooMany
from whichpaces.numbers import number_floor
from whichpaces.paces import pace
from whichpaces.ratios import is_ratio
from whichpaces.tables import machine_of

NEAR, FAR, GOLDEN, TWO = ((2, 1), (1, 1)), ((1, 1), (1, 2)), ((1, 1), (1, 0)), ((2,),)
RING, ONE = ((0, 1), (1, 0)), ((1,),)
APART = ((1, 0), (0, 1))
ONE_WAY = ((1, 1), (0, 1))


def ring_of(numbers):
    """The table whose own polynomial is t ** n less the numbers, from the power n - 1 down to 0."""
    places = len(numbers)
    rows = [tuple(numbers)] + [tuple([int(other == place - 1) for other in range(places)]) for place in range(1, places)]
    return tuple(rows)


def pairs_alike(seed, many):
    """Pairs of unlike tables with one pace."""
    chance = random.Random(seed)
    found = []
    for _ in range(many):
        places = chance.randint(1, 6)
        table = some_table(chance, places, chance.choice([1, 2, 9, 99, 999]))
        sequence = list(range(places))
        chance.shuffle(sequence)
        found.append((table, exchanged(table, sequence)))
        found.append((table, about(exchanged(table, sequence))))
    return found


class Compared(unittest.TestCase):
    def check_apart(self, lesser, greater):
        """The first pace is less than the other one."""
        check_call(self, paces_compared, (lesser, greater), -1)
        check_call(self, paces_compared, (greater, lesser), 1)
        for one, other in [(lesser, greater), (greater, lesser)]:
            told = ratio_between(one, other)
            check_call(self, ratio_between, (one, other), told)
            self.assertIs(is_ratio(told), True)
            self.assertLess(max(told), 10 ** 400)
            check_call(self, is_between, (one, other, told), True)
        # It is above the one and below the other one by the plain look, too.
        self.assertGreater(told[0] * 2 ** 200, plain_pace(lesser) * told[1])
        self.assertLess(told[0] * 2 ** 200, (plain_pace(greater) + 1) * told[1])

    def check_alike(self, one, other):
        """Both paces are the same."""
        check_call(self, paces_compared, (one, other), 0)
        check_call(self, ratio_between, (one, other), None)
        for told in [(1, 1), (2, 1), (5, 2), (1000, 1), ratio(plain_pace(one), 2 ** 200), ratio(plain_pace(one) + 1, 2 ** 200)]:
            check_call(self, is_between, (one, other, told), False)

    def test_the_examples(self):
        self.check_apart(GOLDEN, TWO)
        self.check_alike(NEAR, FAR)
        self.check_alike(RING, ONE)
        self.check_alike(ONE, RING)

    def test_drawn_ones(self):
        chance = random.Random(114)
        seen = {-1: 0, 0: 0, 1: 0}
        for _ in range(150):
            most = chance.choice([1, 1, 2, 9, 999])
            one = some_table(chance, chance.randint(1, 6), most)
            other = some_table(chance, chance.randint(1, 6), most)
            apart = plain_pace(one) - plain_pace(other)
            if abs(apart) > 2:
                self.check_apart(*([one, other] if apart < 0 else [other, one]))
            else:
                self.check_alike(one, other)
            seen[paces_compared(one, other)] += 1
        self.assertGreater(min(seen.values()), 3)

    def test_equal_paces_of_unlike_tables(self):
        for one, other in pairs_alike(115, 40):
            self.check_alike(one, other)
        # A pace in other tables: of all rows the same sum; of a table and one of more places.
        self.check_alike(((1, 2), (2, 1)), ((3,),))
        self.check_alike(((0, 1, 1), (1, 0, 1), (1, 1, 0)), ((2,),))
        self.check_alike(((1, 1), (1, 0)), ((1, 1, 0), (0, 0, 1), (1, 1, 0)))
        self.check_alike(ring_of([0] * 5 + [64]), ((0, 4), (1, 0)))
        self.check_alike(((999,),), ((0, 999), (999, 0)))

    def test_products_turned_about(self):
        chance = random.Random(116)
        for _ in range(40):
            places, others = chance.randint(1, 6), chance.randint(1, 6)
            rows = tuple([tuple([chance.randint(1, 5) for _ in range(others)]) for _ in range(places)])
            lines = tuple([tuple([chance.randint(1, 5) for _ in range(places)]) for _ in range(others)])
            self.check_alike(product(rows, lines), product(lines, rows))

    def test_near_one_another(self):
        for places in range(2, 7):
            self.check_apart(ring_of([999] * (places - 1) + [998]), ring_of([999] * places))
            self.check_apart(ring_of([999] * (places - 1) + [1]), ring_of([999] * (places - 1) + [2]))
        # The paces of both are so near that their RATIO has more than fifteen places.
        told = ratio_between(ring_of([999] * 5 + [998]), ring_of([999] * 6))
        self.assertGreater(told[1], 10 ** 12)
        # 577 / 408 is near to the square root of 2.
        self.check_apart(((0, 1), (2, 0)), ((0, 2), (2, 0)))
        self.check_apart(ring_of([1, 998]), ring_of([1, 999]))

    def test_as_the_paces_told_as_numbers(self):
        chance = random.Random(117)
        for _ in range(40):
            one = some_table(chance, chance.randint(1, 4), 3)
            other = some_table(chance, chance.randint(1, 4), 3)
            floors = [number_floor(pace(machine_of(table)), 200) for table in [one, other]]
            self.assertEqual(plain_pace(one), floors[0])
            check_call(self, paces_compared, (one, other), (floors[0] > floors[1]) - (floors[0] < floors[1]))


class Between(unittest.TestCase):
    def check_both_ways(self, one, other, value, wanted):
        """Whether the value is between, whichever is told first."""
        self.assertIs(is_between(one, other, value), wanted, value)
        self.assertIs(is_between(other, one, value), wanted, value)

    def test_at_a_pace_that_is_a_ratio(self):
        for value, wanted in [((3, 1), False), ((2, 1), False), ((5, 2), True), ((2 * 10 ** 30 + 1, 10 ** 30), True),
                              ((2 * 10 ** 30 - 1, 10 ** 30), False), ((3 * 10 ** 30 - 1, 10 ** 30), True),
                              ((3 * 10 ** 30 + 1, 10 ** 30), False), ((0, 1), False), ((-5, 2), False), ((1, 1), False)]:
            self.check_both_ways(TWO, ((3,),), value, wanted)
            self.check_both_ways(((0, 2), (2, 0)), ((1, 2), (2, 1)), value, wanted)

    def test_just_above_and_just_below(self):
        for one, other in [(GOLDEN, TWO), (ring_of([1, 1, 1]), NEAR), (((0, 1), (1, 1)), ring_of([0, 3]))]:
            lesser, greater = plain_pace(one), plain_pace(other)
            self.assertLess(lesser, greater)
            unit = 2 ** 200
            self.check_both_ways(one, other, ratio(lesser + 1, unit), True)
            self.check_both_ways(one, other, ratio(lesser, unit), False)
            self.check_both_ways(one, other, ratio(greater - 1, unit), True)
            self.check_both_ways(one, other, ratio(greater + 1, unit), False)

    def test_other_roots_are_no_paces(self):
        # The own polynomial of 5 1 / 2 4 has the roots 6 and 3: what is above 3 is not above the pace.
        table = ((5, 1), (2, 4))
        self.assertEqual(own(table), (18, -9, 1))
        self.check_both_ways(table, TWO, (4, 1), True)
        self.check_both_ways(table, ((7,),), (4, 1), False)
        self.check_both_ways(table, ((7,),), (13, 2), True)

    def test_other_values(self):
        for value in NO_RATIOS + [(34, 20), [17, 10], (17, True), "17/10", ("between", (17, 10)), ((17, 10),)]:
            self.check_both_ways(GOLDEN, TWO, value, False)
        self.check_both_ways(GOLDEN, TWO, (17, 10), True)


class Errors(unittest.TestCase):
    def test_wrong_values(self):
        for function in [paces_compared, ratio_between]:
            check_wrong(self, function, (GOLDEN, TWO), [BAD_TABLE, BAD_TABLE])
        for value in [(17, 10), None]:
            check_wrong(self, lambda table, other: is_between(table, other, value), (GOLDEN, TWO), [BAD_TABLE, BAD_TABLE])

    def check_all(self, error, table, other, told=None):
        """Each function raises this error."""
        for call in [(paces_compared, table, other), (ratio_between, table, other), (is_between, table, other, (17, 10)),
                     (is_between, table, other, None)]:
            found = check_state(self, error, *call)
            if told is not None:
                self.assertEqual((found.what, found.limit), told)

    def test_tables_that_fall_apart(self):
        for table in [APART, ONE_WAY, ((0,),), ((0, 0), (0, 0)), ((0, 1, 0), (1, 0, 0), (0, 1, 1))]:
            for other in [TWO, table, ((1,) * 7,) * 7, ((1000,),)]:
                self.check_all(NotTogether, table, other)
                self.check_all(NotTogether, other, table)

    def test_limits(self):
        wide, great = ((1,) * 7,) * 7, ((1000,),)
        widest = ((10 ** 6,) * 12,) * 12
        for other in [TWO, wide, great, widest]:
            self.check_all(TooMany, wide, other, ("places", 6))
            self.check_all(TooMany, other, wide, ("places", 6))
            self.check_all(TooMany, widest, other, ("places", 6))
        for other in [TWO, great, ((999,) * 6,) * 6]:
            self.check_all(TooMany, great, other, ("size", 999))
            self.check_all(TooMany, other, great, ("size", 999))
            self.check_all(TooMany, ((1,) * 6,) * 5 + ((1,) * 5 + (1000,),), other, ("size", 999))
        full = ((999,) * 6,) * 6
        check_call(self, paces_compared, (full, full), 0)
        check_call(self, paces_compared, (full, ((999,),)), 1)
        check_call(self, is_between, (full, TWO, (5993, 1)), True)
        check_call(self, is_between, (full, TWO, (5994, 1)), False)


if __name__ == "__main__":
    unittest.main()
