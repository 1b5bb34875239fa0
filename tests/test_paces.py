"""The PACES of MACHINES [8], [71], [72]."""

import random
import unittest

from helpers import BAD_MACHINE, check_call, check_state, check_wrong, greatest_lengths, machine_with, plain_polynomial
from helpers import plain_rounds, real_roots, some_together

from whichpaces.errors import NotTogether, TooMany
from whichpaces.machines import beat, ways
from whichpaces.numbers import is_number, number_floor
from whichpaces.paces import pace
from whichpaces.polynomials import poly_divided
from whichpaces.tables import machine_of, table_of

ONE = ("number", (-1, 1), 0)


def some(seed, many, most=3):
    """Machines that hang together, with round polynomials that are told."""
    chance = random.Random(seed)
    found = []
    while len(found) < many:
        machine = some_together(chance, chance.randint(1, 5), chance.randint(0, 6), chance.randint(1, 4), most)
        if greatest_lengths(machine) <= 12:
            found.append(machine)
    return found


def told_or_none(machine):
    """The pace of a machine, None where it is too great to be told."""
    try:
        return pace(machine)
    except TooMany:
        return None


class Paces(unittest.TestCase):
    def test_against_the_greatest_root(self):
        count = 0
        for machine in some(71, 150):
            told = told_or_none(machine)
            if told is not None:
                count += 1
                whole = plain_polynomial(machine)[::-1]
                root = real_roots(whole)[0]
                check_call(self, pace, (machine,), told)
                self.assertIs(is_number(told), True)
                self.assertAlmostEqual(number_floor(told, 60) / 2 ** 60, root, delta=1e-9 * root)
                self.assertEqual(poly_divided(whole, told[1])[1], ())
        self.assertGreater(count, 100)

    def test_the_position_is_nought(self):
        for machine in some(72, 80):
            told = told_or_none(machine)
            if told is not None:
                self.assertEqual(told[2], 0)

    def test_against_ways(self):
        # The beat's power of the pace is how much more ways there are, in the long run.
        seen = 0
        for machine in some(73, 60):
            told = told_or_none(machine)
            if told is not None and beat(machine) <= 4:
                step = beat(machine)
                counts = [ways(machine, 0, 60 - many * step) for many in range(3)]
                growth = counts[0] / counts[1]
                if abs(growth - counts[1] / counts[2]) < 1e-7:
                    seen += 1
                    self.assertAlmostEqual((number_floor(told, 60) / 2 ** 60) ** step, growth, delta=1e-4)
        self.assertGreater(seen, 10)

    def test_known_ones(self):
        ones = ((0, 0, 1, 1), (0, 0, 2, 1))
        check_call(self, pace, (("machine", 1, ones),), ("number", (-1, -1, 1), 0))
        check_call(self, pace, (("machine", 1, ((0, 0, 1, 9999),)),), ("number", (-9999, 1), 0))
        check_call(self, pace, (("machine", 1, ((0, 0, 3, 2),)),), ("number", (-2, 0, 0, 1), 0))
        check_call(self, pace, (("machine", 1, ((0, 0, 2, 4),)),), ("number", (-2, 1), 0))
        check_call(self, pace, (("machine", 1, ((0, 0, 12, 4096),)),), ("number", (-2, 1), 0))
        check_call(self, pace, (("machine", 1, ((0, 0, 12, 4),)),), ("number", (-2, 0, 0, 0, 0, 0, 1), 0))
        check_call(self, pace, (("machine", 1, ((0, 0, 2, 1), (0, 0, 3, 1))),), ("number", (-1, -1, 0, 1), 0))
        check_call(self, pace, (("machine", 1, ((0, 0, 2, 1), (0, 0, 4, 1))),), ("number", (-1, 0, -1, 0, 1), 0))
        check_call(self, pace, (machine_of(((1, 1), (1, 1))),), ("number", (-2, 1), 0))
        check_call(self, pace, (machine_of(((2, 1), (1, 1))),), ("number", (1, -3, 1), 0))
        check_call(self, pace, (machine_of(((0, 1, 0), (0, 0, 1), (1, 1, 0))),), ("number", (-1, -1, 0, 1), 0))

    def test_the_pace_of_the_table_of_a_machine(self):
        for machine in some(74, 40):
            told = told_or_none(machine)
            if told is not None and machine[1] + sum([road[2] - 1 for road in machine[2]]) <= 12:
                self.assertEqual(pace(machine_of(table_of(machine))), told)

    def test_one_round_alone(self):
        for lengths in [[1], [12], [5, 7], [1, 1, 1], [4, 4, 4], [1] * 12]:
            places = len(lengths)
            roads = {(place, (place + 1) % places, length): 1 for place, length in enumerate(lengths)}
            check_call(self, pace, (machine_with(places, roads),), ONE)
        for machine in some(75, 80, 1):
            told = told_or_none(machine)
            if told is not None:
                self.assertEqual(told == ONE, len(plain_rounds(machine)) == 1 and len(machine[2]) == machine[1])

    def test_beats_above_one(self):
        seen = []
        for machine in some(76, 120):
            told = told_or_none(machine)
            if told is not None and beat(machine) > 1:
                seen.append(beat(machine))
                whole = plain_polynomial(machine)[::-1]
                self.assertEqual([at for at, number in enumerate(whole[::-1]) if number and at % beat(machine)], [])
        self.assertIn(2, seen)
        self.assertIn(3, seen)


class Limits(unittest.TestCase):
    def check_told(self, machine, what, limit):
        """The call tells that there is too much."""
        found = check_state(self, TooMany, pace, machine)
        self.assertEqual((found.what, found.limit), (what, limit))

    def test_the_length(self):
        self.check_told(("machine", 1, ((0, 0, 13, 1),)), "length", 12)
        self.check_told(("machine", 2, ((0, 1, 6, 1), (1, 0, 7, 10 ** 50))), "length", 12)
        check_call(self, pace, (("machine", 2, ((0, 1, 6, 1), (1, 0, 6, 1))),), ONE)

    def test_the_size_of_the_round_polynomial(self):
        most = 10 ** 40
        # The twelfth root of 10 ** 40 has the degree 3; the tenth one is 10000.
        self.check_told(("machine", 1, ((0, 0, 10, most),)), "size", 9999)
        self.check_told(("machine", 1, ((0, 0, 10, most + 1),)), "size", most)
        check_call(self, pace, (("machine", 1, ((0, 0, 12, 10 ** 12),)),), ("number", (-10, 1), 0))
        check_call(self, pace, (("machine", 1, ((0, 0, 12, 10 ** 36),)),), ("number", (-1000, 1), 0))
        self.check_told(("machine", 1, ((0, 0, 11, most),)), "degree", 6)
        self.check_told(("machine", 1, ((0, 0, 11, most + 1),)), "size", most)
        self.check_told(("machine", 1, ((0, 0, 1, 1), (0, 0, 2, 10 ** 400 - 1))), "size", most)

    def test_the_degree_then_the_size(self):
        self.check_told(("machine", 1, ((0, 0, 7, 2),)), "degree", 6)
        self.check_told(("machine", 1, ((0, 0, 7, 10 ** 6 + 3),)), "degree", 6)
        self.check_told(("machine", 1, ((0, 0, 6, 10 ** 6 + 3),)), "size", 9999)
        self.check_told(("machine", 1, ((0, 0, 1, 10000),)), "size", 9999)
        check_call(self, pace, (("machine", 1, ((0, 0, 7, 128),)),), ("number", (-2, 1), 0))
        check_call(self, pace, (("machine", 1, ((0, 0, 2, 99980001),)),), ("number", (-9999, 1), 0))

    def test_not_together_comes_first(self):
        for machine in [("machine", 1, ()), ("machine", 2, ((0, 0, 1, 1), (0, 1, 20, 1))),
                        ("machine", 2, ((0, 0, 13, 1), (1, 1, 1, 10 ** 50))), ("machine", 2, ((0, 1, 1, 1),))]:
            check_state(self, NotTogether, pace, machine)

    def test_wrong_values(self):
        check_wrong(self, pace, (("machine", 1, ((0, 0, 1, 1),)),), [BAD_MACHINE])


if __name__ == "__main__":
    unittest.main()
