"""Where NUMBERS stand [91], [92]."""

import random
import unittest

from helpers import BAD_NUMBER, all_roots, check_call, check_state, check_wrong, divisor_of, real_roots

from whichpaces.dominance import common_beat, ring_for, standing
from whichpaces.errors import NotBeyond
from whichpaces.numbers import is_number, number_beside, number_floor
from whichpaces.numbersums import number_power
from whichpaces.ratios import is_ratio
from whichpaces.rings import ring_count

ALONE = [
    (-1, 1), (-9999, 1), (-1, -1, 1), (1, -3, 1), (2549, -101, 1), (-9998, -1, 1), (-1, -1, 0, 1), (-1, 1, -2, 1),
    (-9998, -1, 0, 0, 0, 0, 1), (6559, -2916, 486, -36, 1), (1, -1, 0, 0, -3, 1), (-1, -30, -27, 12, -6, -1, 1),
    (1, -1, -1, -1, 1), (-2, -1, 0, 0, -9999, 0, 1),
]
# Each with its common beat.
BEATS = [
    ((-2, 0, 1), 2), ((-9999, 0, 1), 2), ((-2, 0, 0, 1), 3), ((-2, 0, 0, 0, 1), 4), ((-1, 0, -1, 0, 1), 2),
    ((-2, 0, 0, 0, 0, 1), 5), ((-2, 0, 0, 0, 0, 0, 1), 6), ((-1, 0, -3, 0, 0, 0, 1), 2), ((-1, 0, 0, -3, 0, 0, 1), 3),
    ((2, 0, -4, 0, 1), 2), ((-1, 0, -9, 0, -6, 0, 1), 2), ((-7, 0, 0, -1, 0, 0, 1), 3),
]
# Each with a position of a root that is less than another one in size.
BEYOND = [
    ((2, -4, 1), 1), ((1, -3, 1), 1), ((-10, 6, 1), 0), ((-1, 1, 1), 0), ((-2, 1, 2, 1), 0), ((-9998, 1, 1), 0),
    ((-9998, 1, 0, 0, 0, 0, 1), 0), ((2, 1, 0, 0, -9999, 0, 1), 0), ((-2, 280, -9800, 0, 0, 0, 1), 0),
    ((-2, 280, -9800, 0, 0, 0, 1), 1), ((-2, 280, -9800, 0, 0, 0, 1), 2), ((1, 0, -9, 0, 6, 0, 1), 0), ((1, 0, -9, 0, 6, 0, 1), 1),
    ((2, 0, -4, 0, 1), 1), ((1, 0, -10, 0, 1), 1), ((-1, 0, 3, 0, 1), 0), ((-2, 0, 0, 8, 0, 0, 1), 0),
    ((1, 0, 0, -9, 0, 0, 1), 1),
]


def some(seed, many):
    """Numbers of all degrees."""
    chance = random.Random(seed)
    found = []
    while len(found) < many:
        degree = chance.randint(1, 6)
        size = chance.choice([1, 2, 5, 40, 9999])
        step = chance.choice([1, 1, 1, 2, 3])
        row = [chance.randint(-size, size) if at % step == 0 else 0 for at in range(degree)] + [1]
        number = ("number", tuple(row), chance.choice([0, 0, 1]))
        if is_number(number):
            found.append(number)
    return found


class Beats(unittest.TestCase):
    def test_powers_that_are_there(self):
        for number in some(91, 150):
            told = divisor_of([power for power, factor in enumerate(number[1]) if factor])
            check_call(self, common_beat, (number,), told)

    def test_known_ones(self):
        for least in ALONE:
            check_call(self, common_beat, (("number", least, 0),), 1)
        for least, told in BEATS:
            check_call(self, common_beat, (("number", least, 0),), told)
        check_call(self, common_beat, (("number", (1, 0, -10, 0, 1), 1),), 2)
        check_call(self, common_beat, (("number", (-1, 0, 0, 0, -9998, 0, 1), 0),), 2)
        check_call(self, common_beat, (("number", (-5, 0, 0, -7, 0, 1), 0),), 1)

    def test_the_power_by_the_common_beat(self):
        for number in some(92, 60):
            told = common_beat(number)
            least = number[1][::told]
            if number_floor(number, 0) < 4:
                self.assertEqual(number_power(number, told), ("number", least, number[2]))


class Standings(unittest.TestCase):
    def test_known_ones(self):
        for least in ALONE:
            check_call(self, standing, (("number", least, 0),), "alone")
        for least, _ in BEATS:
            check_call(self, standing, (("number", least, 0),), "beats")
        for least, position in BEYOND:
            check_call(self, standing, (("number", least, position),), "beyond")

    def test_against_the_sizes_of_all_roots(self):
        seen = []
        for number in some(93, 250):
            _, least, position = number
            size = real_roots(least)[position]
            sizes = sorted([abs(root) for root in all_roots(least)], key=lambda told: abs(told - size))[1:]
            gap = max([told - size for told in sizes], default=-1) / size
            if gap > 1e-7:
                told = "beyond"
            elif gap < -1e-7:
                told = "alone"
            else:
                told = "beats"
                self.assertLess(abs(gap), 1e-11)
            check_call(self, standing, (number,), told)
            seen.append((told, len(least) - 1))
        for degree in range(2, 7):
            self.assertIn(("alone", degree), seen)
            self.assertIn(("beyond", degree), seen)
        self.assertIn(("beats", 4), seen)

    def test_near_one_another(self):
        # The sizes of both differ by about 1 / 10 ** 8.
        roots = real_roots((-2, -1, 0, 0, -9999, 0, 1))
        self.assertLess(abs(roots[0] + roots[-1]), 1e-7)
        check_call(self, standing, (("number", (-2, -1, 0, 0, -9999, 0, 1), 0),), "alone")
        check_call(self, standing, (("number", (2, 1, 0, 0, -9999, 0, 1), 0),), "beyond")
        check_call(self, standing, (("number", (-9998, 1, 0, 0, 0, 0, 1), 0),), "beyond")
        check_call(self, standing, (("number", (-9998, -1, 0, 0, 0, 0, 1), 0),), "alone")

    def test_lesser_than_one(self):
        for least, position in [((1, -3, 1), 1), ((-1, 1, 1), 0), ((-1, 2, 0, 0, 0, 0, 1), 0), ((-1, 9999, 1), 0)]:
            number = ("number", least, position)
            self.assertEqual(number_floor(number, 0), 0)
            check_call(self, standing, (number,), "beyond")


class Rings(unittest.TestCase):
    def check_ring(self, number):
        """The ring is above the number, and some conjugate is at least as great."""
        ratio = ring_for(number)
        self.assertIs(is_ratio(ratio), True)
        check_call(self, ring_for, (number,), ratio)
        self.assertEqual(number_beside(number, ratio), -1)
        self.assertLess(ring_count(number[1], ratio)[0], len(number[1]) - 1)
        self.assertLess(max(ratio), 10 ** 400)
        return ratio

    def test_known_ones(self):
        for least, position in BEYOND:
            self.check_ring(("number", least, position))

    def test_of_all_degrees(self):
        seen = 0
        for number in some(94, 250):
            if standing(number) == "beyond":
                seen += 1
                self.check_ring(number)
            else:
                check_state(self, NotBeyond, ring_for, number)
        self.assertGreater(seen, 60)

    def test_near_one_another(self):
        ratio = self.check_ring(("number", (2, 1, 0, 0, -9999, 0, 1), 0))
        self.assertGreater(ratio[1], 10 ** 6)

    def test_not_beyond(self):
        for least in ALONE + [least for least, _ in BEATS]:
            check_state(self, NotBeyond, ring_for, ("number", least, 0))


class Wrong(unittest.TestCase):
    def test_wrong_values(self):
        for function in [common_beat, standing, ring_for]:
            check_wrong(self, function, (("number", (2, -4, 1), 1),), [BAD_NUMBER])


if __name__ == "__main__":
    unittest.main()
