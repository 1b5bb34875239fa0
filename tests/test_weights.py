"""WEIGHTS of MACHINES [8], [73] to [75]."""

import random
import unittest

from helpers import BAD_MACHINE, BAD_NUMBER, NO_MACHINES, check_call, check_state, check_wrong, greatest_lengths
from helpers import machine_with, some_together

from whichpaces.errors import InvalidMachine, InvalidNumber, NotTogether, TooMany
from whichpaces.lightening import lightened
from whichpaces.mixes import is_mix, mix_made, mix_minus, mix_over, mix_plus, mix_times, power_mix
from whichpaces.numbers import is_number, mix_sign
from whichpaces.paces import pace
from whichpaces.tables import machine_of, table_of
from whichpaces.weights import is_weights, weights

TIED = ("machine", 2, ((0, 0, 1, 2), (0, 1, 1, 1), (1, 0, 1, 1), (1, 1, 1, 1)))
GOLDEN = ("machine", 1, ((0, 0, 1, 1), (0, 0, 2, 1)))
BEATING = ("machine", 1, ((0, 0, 2, 2),))
GREATER, LESSER, GOLD, ROOT = (
    ("number", (1, -3, 1), 0), ("number", (1, -3, 1), 1), ("number", (-1, -1, 1), 0), ("number", (-2, 0, 1), 0))
ONE, TWO = ("number", (-1, 1), 0), ("number", (-2, 1), 0)


def told_paces(seed, many, places=6, most=3):
    """Machines that hang together, each with its pace, where that is told."""
    chance = random.Random(seed)
    found = []
    while len(found) < many:
        machine = some_together(chance, chance.randint(1, places), chance.randint(0, 8), chance.randint(1, 4), most)
        if greatest_lengths(machine) <= 12:
            try:
                found.append((machine, pace(machine)))
            except TooMany:
                pass
    return found


def plain_judge(machine, number, value):
    """Whether mixes of the number keep all equations and are above 0, told by mixes alone."""
    for place, weight in enumerate(value):
        own = [road for road in machine[2] if road[0] == place]
        top = max([length for _, _, length, _ in own])
        left = mix_times(number, weight, power_mix(number, top))
        for _, other, length, many in own:
            part = mix_times(number, power_mix(number, top - length), value[other])
            left = mix_minus(number, left, mix_times(number, part, self_mix(number, many)))
        if any(left[0]) or mix_sign(number, weight) != 1:
            return False
    return True


def self_mix(number, many):
    """The mix that is an integer."""
    return mix_made(number, [many] + [0] * (len(number[1]) - 2), 1)


class Found(unittest.TestCase):
    def check_found(self, machine, number):
        """There are weights, and they are judged to be such in both ways."""
        told = weights(machine, number)
        self.assertIsInstance(told, tuple)
        self.assertEqual(len(told), machine[1])
        for mix in told:
            self.assertIs(is_mix(number, mix), True)
        self.assertIs(plain_judge(machine, number, told), True)
        check_call(self, is_weights, (machine, number, told), True)
        check_call(self, weights, (machine, number), told)
        return told

    def test_for_the_pace(self):
        for machine, number in told_paces(81, 80):
            told = self.check_found(machine, number)
            self.assertLess(max([abs(part) for row, under in told for part in row + (under,)]), 10 ** 400)

    def test_for_one_place_and_two(self):
        self.assertEqual(len(self.check_found(GOLDEN, GOLD)), 1)
        self.check_found(BEATING, ROOT)
        told = self.check_found(TIED, GREATER)
        self.assertEqual(mix_over(GREATER, told[0], told[1]), ((-1, 1), 1))
        self.check_found(("machine", 1, ((0, 0, 400, 1),)), ONE)
        self.check_found(("machine", 2, ((0, 1, 1, 1), (1, 0, 4, 1))), ONE)
        self.check_found(("machine", 2, ((0, 1, 100, 2 ** 150), (1, 0, 50, 1))), TWO)

    def test_none_above_and_below_the_pace(self):
        for machine, number in told_paces(82, 40):
            for other in [ONE, TWO, GOLD, ROOT, GREATER, LESSER, ("number", (-3, 1), 0), ("number", (-9999, 1), 0),
                          ("number", (-1, -1, 0, 1), 0), ("number", (2, -4, 1), 1), ("number", (-1, 1, 1), 0)]:
                if other != number:
                    check_call(self, weights, (machine, other), None)

    def test_none_for_a_conjugate(self):
        seen = 0
        for machine, number in told_paces(83, 120):
            for position in range(1, 6):
                other = ("number", number[1], position)
                if is_number(other):
                    seen += 1
                    check_call(self, weights, (machine, other), None)
                    told = weights(machine, number)
                    check_call(self, is_weights, (machine, other, told), False)
        self.assertGreater(seen, 10)
        check_call(self, weights, (TIED, LESSER), None)

    def test_along_the_table_of_a_machine(self):
        for machine, number in told_paces(84, 40):
            if machine[1] + sum([length - 1 for _, _, length, _ in machine[2]]) <= 12:
                long = weights(machine_of(table_of(machine)), number)
                self.assertIs(is_weights(machine, number, long[:machine[1]]), True)
                at = machine[1]
                for _, other, length, _ in machine[2]:
                    for step in range(1, length):
                        # Behind so many steps of a road.
                        told = mix_over(number, long[other], power_mix(number, length - step))
                        self.assertEqual(long[at], told)
                        at += 1

    def test_more_roads_raise_the_pace(self):
        for machine, number in told_paces(85, 40):
            roads = {road[:3]: road[3] for road in machine[2]}
            for road in list(roads)[:2] + [(0, machine[1] - 1, 5)]:
                more = dict(roads)
                more[road] = more.get(road, 0) + 1
                check_call(self, weights, (machine_with(machine[1], more), number), None)

    def test_few_figures_where_roads_are_long(self):
        # From the place 0 to the place 1 the weights rise by 99 ** 400, a number of 799 figures.
        most = 99 ** 199
        machine = ("machine", 2, ((0, 1, 400, 1), (1, 0, 1, 99), (1, 1, 199, most - 1), (1, 1, 398, most - 1),
                                  (1, 1, 400, 99 ** 2 - 1)))
        number = ("number", (-99, 1), 0)
        told = weights(machine, number)
        self.assertLess(max([abs(part) for row, under in told for part in row + (under,)]), 10 ** 400)
        check_call(self, is_weights, (machine, number, told), True)
        self.assertEqual(mix_over(number, told[1], told[0]), ((99 ** 400,), 1))
        check_call(self, weights, (machine, ("number", (-98, 1), 0)), None)
        check_call(self, weights, (machine, ("number", (-100, 1), 0)), None)
        check_call(self, is_weights, (machine, number, (((1,), 1), ((99 ** 400,), 1))), True)

    def test_too_many_figures_in_any_proportion(self):
        # The proportion stays, and the looking for less figures ends.
        least = (-99, 1)
        told = lightened(least, [((1,), 1), ((99 ** 900,), 1)])
        self.assertEqual(told[1][0][0] * told[0][1], 99 ** 900 * told[0][0][0] * told[1][1])
        self.assertLess(max(told[1][0][0], told[0][1]), 99 ** 460)
        for number in [GREATER, ROOT, GOLD]:
            long = [power_mix(number, 0), mix_made(number, power_mix(number, 400)[0], 10 ** 399 * 7)]
            told = lightened(number[1], long)
            self.assertEqual(mix_over(number, told[1], told[0]), mix_over(number, long[1], long[0]))

    def test_of_twelve_places(self):
        ring = {(place, (place + 1) % 12, 1): 1 + place % 3 for place in range(12)}
        number = ("number", (-36, 0, 0, 1), 0)
        told = ("number", (-6, 0, 0, 0, 0, 0, 1), 0)
        self.assertIsNone(weights(machine_with(12, ring), number))
        self.check_found(machine_with(12, ring), pace(machine_with(12, ring)))
        self.assertEqual(pace(machine_with(12, ring)), ("number", (-6, 0, 0, 1), 0))
        self.assertIsNone(weights(machine_with(12, ring), told))


class Judged(unittest.TestCase):
    def test_times_a_mix_above_nought(self):
        for machine, number in told_paces(86, 40):
            told = weights(machine, number)
            degree = len(number[1]) - 1
            for row, under in [([3] + [0] * (degree - 1), 7), ([0] * (degree - 1) + [1], 1), ([1] * degree, 5)]:
                mix = mix_made(number, row, under)
                more = tuple([mix_times(number, weight, mix) for weight in told])
                check_call(self, is_weights, (machine, number, more), True)
                less = tuple([mix_minus(number, self_mix(number, 0), weight) for weight in more])
                check_call(self, is_weights, (machine, number, less), False)
            nought = (self_mix(number, 0),) * machine[1]
            check_call(self, is_weights, (machine, number, nought), False)

    def test_one_changed(self):
        for machine, number in told_paces(87, 40):
            told = weights(machine, number)
            for place in range(machine[1]):
                for mix in [mix_plus(number, told[place], self_mix(number, 1)), self_mix(number, 0),
                            mix_times(number, told[place], self_mix(number, 2)),
                            mix_minus(number, self_mix(number, 0), told[place])]:
                    other = told[:place] + (mix,) + told[place + 1:]
                    kept = machine[1] == 1 and mix_sign(number, mix) == 1
                    check_call(self, is_weights, (machine, number, other), kept)

    def test_values_of_any_kind(self):
        one = ((1, 0), 1)
        right = (((-1, 1), 1), one)
        check_call(self, is_weights, (TIED, GREATER, right), True)
        for value in [
            None, True, 5, 0, "weights", b"12", [], (), {}, object(), list(right), right[:1], right + (one,), right[::-1],
            (list(right[0]), one), (([-1, 1], 1), one), (((-1, 1),), one), (((-1, 1), 1, 1), one), (None, one), (1, 1),
            (((-2, 2), 2), one), (((-1, 1), True), one), (((-1, True), 1), one), (((-1, 1), 1), ((True, 0), 1)),
            (((-1, 1), 1), ((True, False), 1)), (((-1, 1), -1), ((1, 0), -1)), (((-1, 1), 0), one), (((-1,), 1), one),
            (((-1, 1, 0), 1), one), (((-1, 1), 1), ((1,), 1)), (((0, 0), 1), one), (((-1, 1), 1), ((0, 0), 1)),
            (((1, -1), 1), ((-1, 0), 1)), (((-1, 1), "1"), one), ("12", "34"), ({}, {}), NO_MACHINES, TIED, GREATER,
            (right, right), (((-1, 1), 1), ((2, 0), 1)), (((-1, 1), 3), ((1, 0), 3), ((1, 0), 3)),
        ]:
            self.assertIs(is_weights(TIED, GREATER, value), False, value)

    def test_of_the_document(self):
        check_call(self, is_weights, (TIED, GREATER, (((-1, 1), 1), ((1, 0), 1))), True)
        check_call(self, pace, (TIED,), GREATER)
        check_call(self, is_weights, (GOLDEN, GOLD, (((0, 1), 3),)), True)
        check_call(self, is_weights, (GOLDEN, GOLD, (((2, -1), 1),)), True)
        check_call(self, is_weights, (GOLDEN, GOLD, (((1, -1), 1),)), False)
        check_call(self, is_weights, (GOLDEN, GREATER, (((0, 1), 3),)), False)
        check_call(self, is_weights, (TIED, LESSER, (((-1, 1), 1), ((1, 0), 1))), False)
        check_call(self, is_weights, (TIED, LESSER, (((1, -1), 1), ((-1, 0), 1))), False)

    def test_the_other_roots_keep_the_equations_alone(self):
        # For the lesser root the equations hold, too, but not all of them are above 0.
        self.assertIs(plain_judge(TIED, LESSER, (((-1, 1), 1), ((1, 0), 1))), False)
        ring = ("machine", 2, ((0, 1, 1, 1), (1, 0, 2, 8)))
        told = weights(ring, TWO)
        self.assertEqual(mix_over(TWO, told[1], told[0]), ((2,), 1))


class Wrong(unittest.TestCase):
    def test_wrong_values(self):
        check_wrong(self, weights, (TIED, GREATER), [BAD_MACHINE, BAD_NUMBER])
        check_wrong(self, lambda machine, number: is_weights(machine, number, None), (TIED, GREATER),
                    [BAD_MACHINE, BAD_NUMBER])

    def test_not_together_comes_behind_both(self):
        apart = ("machine", 2, ((0, 0, 1, 1), (0, 1, 1, 1)))
        for machine in [apart, ("machine", 1, ()), ("machine", 2, ((0, 1, 400, 1),))]:
            check_state(self, NotTogether, weights, machine, GOLD)
            for value in [None, (), (((1, 0), 1),), (((1, 0), 1), ((1, 0), 1))]:
                check_state(self, NotTogether, is_weights, machine, GOLD, value)
            check_state(self, InvalidNumber, weights, machine, ("number", (-1, 1), 1))
            check_state(self, InvalidNumber, is_weights, machine, None, None)
        check_state(self, InvalidMachine, weights, ("machine", 0, ()), None)


if __name__ == "__main__":
    unittest.main()
