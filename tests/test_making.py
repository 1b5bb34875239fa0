"""MACHINES made for NUMBERS [93]."""

import random
import unittest

from helpers import BAD_NUMBER, check_call, check_state, check_wrong

from whichpaces.cones import good_cone
from whichpaces.dominance import common_beat, standing
from whichpaces.entering import coordinates, entering, led
from whichpaces.errors import NoMachine, TooMany
from whichpaces.machines import beat, is_machine, is_together
from whichpaces.making import beatless_machine, machine_for
from whichpaces.numbers import is_number
from whichpaces.paces import pace
from whichpaces.weights import is_weights, weights

ALONE = [
    (-1, 1), (-9999, 1), (-1, -1, 1), (1, -3, 1), (2549, -101, 1), (-9998, -1, 1), (-1, -1, 0, 1), (-1, 1, -2, 1),
    (-9998, -1, 0, 0, 0, 0, 1), (6559, -2916, 486, -36, 1), (1, -1, 0, 0, -3, 1), (-1, -30, -27, 12, -6, -1, 1),
    (1, -1, -1, -1, 1), (-4083, 767, -48, 1),
]
BEATS = [
    (-2, 0, 1), (-9999, 0, 1), (-2, 0, 0, 1), (-2, 0, 0, 0, 1), (-1, 0, -1, 0, 1), (-2, 0, 0, 0, 0, 1),
    (-2, 0, 0, 0, 0, 0, 1), (-1, 0, -3, 0, 0, 0, 1), (-1, 0, 0, -3, 0, 0, 1), (2, 0, -4, 0, 1), (-1, 0, -9, 0, -6, 0, 1),
]
BEYOND = [
    ((2, -4, 1), 1), ((1, -3, 1), 1), ((-10, 6, 1), 0), ((-1, 1, 1), 0), ((2, 0, -4, 0, 1), 1), ((1, 0, -10, 0, 1), 1),
    ((1, 0, -9, 0, 6, 0, 1), 0), ((1, 0, -9, 0, 6, 0, 1), 1),
]


def some(seed, many):
    """Numbers of all degrees, of all standings."""
    chance = random.Random(seed)
    found = []
    while len(found) < many:
        size = chance.choice([1, 2, 5, 40, 9999])
        step = chance.choice([1, 1, 2, 3])
        degree = chance.randint(1, 6)
        row = [chance.randint(-size, size) if at % step == 0 else 0 for at in range(degree)] + [1]
        if is_number(("number", tuple(row), 0)):
            found.append(("number", tuple(row), 0))
    return found


class Made(unittest.TestCase):
    def check_made(self, function, number):
        """The machine hangs together and has the pace, by its weights and, where it is told, by pace."""
        machine = function(number)
        check_call(self, function, (number,), machine)
        self.assertIs(is_machine(machine), True)
        self.assertIs(is_together(machine), True)
        self.assertIs(is_weights(machine, number, weights(machine, number)), True)
        try:
            self.assertEqual(pace(machine), number)
        except TooMany as wrong:
            self.assertEqual((wrong.what, wrong.limit), ("length", 12))
        return machine

    def test_of_numbers_that_are_alone(self):
        for least in ALONE:
            self.check_made(machine_for, ("number", least, 0))
            self.assertEqual(beat(self.check_made(beatless_machine, ("number", least, 0))), 1)

    def test_of_numbers_that_beat(self):
        for least in BEATS:
            number = ("number", least, 0)
            machine = self.check_made(machine_for, number)
            self.assertEqual(beat(machine) % common_beat(number), 0)
            check_state(self, NoMachine, beatless_machine, number)

    def test_of_numbers_that_are_beyond(self):
        for least, position in BEYOND:
            check_state(self, NoMachine, machine_for, ("number", least, position))
            check_state(self, NoMachine, beatless_machine, ("number", least, position))

    def test_of_all_degrees(self):
        seen = []
        for number in some(93, 220):
            told = standing(number)
            seen.append((told, len(number[1]) - 1))
            if told == "beyond":
                check_state(self, NoMachine, machine_for, number)
            else:
                self.check_made(machine_for, number)
            if told == "alone":
                self.assertEqual(beat(self.check_made(beatless_machine, number)), 1)
            else:
                check_state(self, NoMachine, beatless_machine, number)
        for degree in range(1, 7):
            self.assertIn(("alone", degree), seen)

    def test_the_rows_are_weights(self):
        for least in ALONE:
            number = ("number", least, 0)
            cone = good_cone(number)
            for function in [machine_for, beatless_machine]:
                machine = function(number)
                if machine[1] == len(cone):
                    self.assertIs(is_weights(machine, number, tuple([(row, 1) for row in cone])), True)

    def test_a_common_divisor_of_all_lengths(self):
        # Its rows enter at the lengths 46, 84 and 46.
        number = ("number", (-4083, 767, -48, 1), 0)
        cone = good_cone(number)
        self.assertEqual([entering(number, cone, position) for position in range(3)], [46, 84, 46])
        self.assertEqual(beat(self.check_made(beatless_machine, number)), 1)
        self.check_made(machine_for, number)

    def test_small_ones(self):
        check_call(self, machine_for, (("number", (-7, 1), 0),), ("machine", 1, ((0, 0, 1, 7),)))
        tied = ("machine", 2, ((0, 0, 1, 2), (0, 1, 1, 1), (1, 0, 1, 1), (1, 1, 1, 1)))
        self.assertEqual(pace(tied), ("number", (1, -3, 1), 0))
        self.assertEqual(pace(machine_for(("number", (1, -3, 1), 0))), ("number", (1, -3, 1), 0))


class Limits(unittest.TestCase):
    """TooMany comes only where the document lets it come: judged by good_cone, entering and coordinates."""

    def check_let(self, number, function):
        """The call makes a machine, or what is made of the good cone is too great."""
        try:
            function(number)
        except TooMany as wrong:
            told = wrong
        else:
            return None
        factor = common_beat(number)
        power = ("number", number[1][::factor], number[2])
        self.assertIn((told.what, told.limit), [("cuts", 400), ("lengths", 400), ("figures", 400)])
        try:
            cone = good_cone(power)
            lengths = [entering(power, cone, position) for position in range(len(cone))]
        except TooMany as wrong:
            self.assertIn(told.what, [wrong.what, "figures"])
            return told.what
        most = max([max(coordinates(power, cone, led(power, row, length))) for row, length in zip(cone, lengths)])
        self.assertTrue(max(lengths) * factor > 400 or most >= 10 ** 400)
        return told.what

    def test_numbers_for_which_it_is_too_much(self):
        for least, told in [((6994, -369, -19, 1), "cuts"), ((3879, -216, -18, 1), "cuts"),
                            ((3243, -1764, 354, -31, 1), "lengths"), ((-409, 594, -351, 105, -16, 1), "lengths"),
                            ((-6616, 1071, -57, 1), "figures")]:
            number = ("number", least, 0)
            self.assertEqual(standing(number), "alone")
            self.assertEqual(self.check_let(number, machine_for), told)
            self.assertEqual(self.check_let(number, beatless_machine), told)

    def test_lengths_by_the_common_beat(self):
        for least in [(-6616, 1071, -57, 1), (-9263, 1323, -63, 1), (6994, -369, -19, 1)]:
            number = ("number", (least[0], 0, least[1], 0, least[2], 0, 1), 0)
            self.assertEqual(standing(number), "beats")
            told = self.check_let(number, machine_for)
            self.assertEqual(told is None, least == (-9263, 1323, -63, 1))
            check_state(self, NoMachine, beatless_machine, number)

    def test_just_about_four_hundred_by_the_common_beat(self):
        # The number to the power 2 has roads of the lengths 196, 198 and 201.
        for least, most in [((-7856, 1193, -60, 1), 392), ((-5416, 931, -53, 1), 396), ((-7702, 1084, -55, 1), 400),
                            ((-6786, 832, -44, 1), 400), ((-6879, 1084, -57, 1), None), ((-9402, 1428, -67, 1), None)]:
            self.assertEqual(standing(("number", least, 0)), "alone")
            number = ("number", (least[0], 0, least[1], 0, least[2], 0, 1), 0)
            if most is None:
                found = check_state(self, TooMany, machine_for, number)
                self.assertEqual((found.what, found.limit), ("lengths", 400))
            else:
                machine = machine_for(number)
                self.assertEqual(max([length for _, _, length, _ in machine[2]]), most)
                self.assertIs(is_weights(machine, number, weights(machine, number)), True)

    def test_just_four_hundred_cuts(self):
        for least in [(6114, -340, -18, 1), (7391, -341, -22, 1)]:
            self.assertIn(self.check_let(("number", least, 0), machine_for), [None, "lengths", "figures"])

    def test_no_other_ones(self):
        for number in some(95, 60):
            if standing(number) != "beyond":
                self.check_let(number, machine_for)


class Wrong(unittest.TestCase):
    def test_wrong_values(self):
        for function in [machine_for, beatless_machine]:
            check_wrong(self, function, (("number", (1, -3, 1), 0),), [BAD_NUMBER])


if __name__ == "__main__":
    unittest.main()
