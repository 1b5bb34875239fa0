"""Second roots and multipliers [101], [102]."""

import unittest
from math import comb

from helpers import BAD_NUMBER, check_call, check_state, check_wrong, real_roots
from somenumbers import ALONE, BEATS, BEYOND, near, some

from whichpaces.dominance import standing
from whichpaces.errors import NoHub, TooMany
from whichpaces.multipliers import multiplier, second_roots
from whichpaces.signs import sign_changes

PLACES = 300
# A pair of conjugates of these comes nearer and nearer to the line above 0.
OF_EACH = [
    ((-7629, 30, -60, 1), 0), ((-4086, 105, -60, 1), 1), ((-6381, 187, -60, 1), 2), ((-2723, 543, -60, 1), 10),
    ((-4704, 769, -60, 1), 20), ((-4989, 831, -56, 1), 33), ((-6070, 892, -53, 1), 40), ((-4676, 860, -57, 1), 52),
    ((-2890, 652, -51, 1), 53), ((-4068, 829, -59, 1), 54), ((-2214, 623, -57, 1), 54), ((-2265, 595, -52, 1), 54),
]
ABOVE = [(-2742, 686, -57, 1), (-1394, 808, -42, 1), (-1978, 512, -45, 1), (-4040, 890, -60, 1), (-4100, 847, -60, 1), (-3841, 828, -60, 1), (-1, 3, -1, -3, 1), (-1, 2, 3, -4, -5, 1)]


def plain_direction(number):
    """The numbers of the least polynomial divided by t less the number, times 2 ** PLACES, nearly."""
    x = near(number, PLACES)
    found = [2 ** PLACES]
    for factor in reversed(number[1][1:-1]):
        found.append((found[-1] * x >> PLACES) + factor * 2 ** PLACES)
    return found[::-1]


def plain_multiplier(number, most):
    """The least many with all numbers of (1 + t) ** many times the direction above 0; None if it is above most."""
    told = plain_direction(number)
    for many in range(most + 1):
        whole = [sum([comb(many, power - at) * factor for at, factor in enumerate(told) if 0 <= power - at <= many])
                 for power in range(many + len(told))]
        if min(whole) > 2 ** (PLACES // 2):
            return many
        # What is not above 0 is well below it: none is nearly 0.
        if min([abs(factor) for factor in whole]) < 2 ** (PLACES // 2):
            raise ValueError(number)
    return None


class SecondRoots(unittest.TestCase):
    def test_known_ones(self):
        for least, position, told in [((1, -3, 1), 0, 1), ((1, -3, 1), 1, 1), ((-1, 1, -2, 1), 0, 0), ((-2, 0, 1), 0, 0),
                                      ((2, -4, 1), 1, 1), ((-5, 1), 0, 0), ((1, 0, -10, 0, 1), 0, 1), ((1, 0, -9, 0, 6, 0, 1), 0, 1),
                                      ((2549, -101, 1), 0, 1), ((-1, 9, -6, 1), 2, 2), ((-1, 9, -6, 1), 1, 2)]:
            check_call(self, second_roots, (("number", least, position),), told)

    def test_by_the_real_roots(self):
        seen = []
        for number in ALONE + BEATS + BEYOND + some(101, 150):
            told = len([root for root in real_roots(number[1]) if root > 0]) - 1
            check_call(self, second_roots, (number,), told)
            # With one change of signs there is one root above 0 (Descartes).
            if sign_changes(number[1]) == 1:
                self.assertEqual(told, 0)
            seen.append(told)
        for many in range(3):
            self.assertIn(many, seen)


class Multipliers(unittest.TestCase):
    def test_each_many(self):
        for least, told in OF_EACH:
            number = ("number", least, 0)
            check_call(self, multiplier, (number,), told)
            self.assertEqual(plain_multiplier(number, 54), told)
        for least in [(-5, 1), (-1, 1), (-9999, 1), (-2, 0, 1), (-1, -1, 1), (-1, -1, 0, 1), (-2, 0, 0, 0, 0, 0, 1)]:
            check_call(self, multiplier, (("number", least, 0),), 0)

    def test_above_the_limit(self):
        for least in ABOVE:
            number = ("number", least, 0)
            told = check_state(self, TooMany, multiplier, number)
            self.assertEqual((told.what, told.limit), ("multiplier", 54))
            self.assertIsNone(plain_multiplier(number, 54))
        self.assertEqual([plain_multiplier(("number", least, 0), 60) for least in ABOVE[:3]], [55, 55, 56])

    def test_against_plain_products(self):
        seen = 0
        for number in some(102, 250, (1, 2, 5, 40, 9999)):
            if second_roots(number):
                check_state(self, NoHub, multiplier, number)
            else:
                told = plain_multiplier(number, 54)
                if told is None:
                    check_state(self, TooMany, multiplier, number)
                else:
                    check_call(self, multiplier, (number,), told)
                    seen = max(seen, told)
        self.assertGreater(seen, 3)

    def test_of_numbers_beyond(self):
        # It hangs on second roots alone.
        for least, told in [((-10, 6, 1), 0), ((-1, 1, 1), 0), ((-5664, 827, -46, 1), 44), ((-6219, 891, -46, 1), 46)]:
            number = ("number", least, 0)
            self.assertEqual(standing(number), "beyond")
            check_call(self, multiplier, (number,), told)

    def test_no_hub_ahead_of_too_many(self):
        for number in BEYOND + ALONE:
            if second_roots(number):
                check_state(self, NoHub, multiplier, number)
        # With a second root no many is enough.
        for number in BEYOND + ALONE:
            if second_roots(number):
                self.assertIsNone(plain_multiplier(number, 54))


class Wrong(unittest.TestCase):
    def test_wrong_values(self):
        for function in [second_roots, multiplier]:
            check_wrong(self, function, (("number", (-1, -1, 1), 0),), [BAD_NUMBER])


if __name__ == "__main__":
    unittest.main()
