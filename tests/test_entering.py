"""Coordinates, rows led and when they enter [82], [85], [86]."""

import unittest

from helpers import BAD_NUMBER, bad_cone, bad_many, bad_position, bad_told_row, check_call, check_state, check_wrong

from whichpaces.cones import cut_cone, first_cone, good_cone
from whichpaces.entering import coordinates, entering, led
from whichpaces.errors import InvalidCone, InvalidMany, InvalidPosition, InvalidRow, NotAbove, NotAlone, TooMany
from whichpaces.mixes import mix_times, power_mix
from whichpaces.numbers import mix_sign

GOLDEN, PLASTIC = ("number", (1, -3, 1), 0), ("number", (-1, -1, 0, 1), 0)
ALONE = [
    ("number", least, 0) for least in [
        (-1, 1), (-9999, 1), (-1, -1, 1), (1, -3, 1), (2549, -101, 1), (-1, -1, 0, 1), (-1, 1, -2, 1), (-1, -1, 0, 0, 1),
        (6559, -2916, 486, -36, 1), (1, -1, 0, 0, -3, 1), (-1, -30, -27, 12, -6, -1, 1), (-1, -1, 0, 0, 0, 0, 1),
        (-9999, -9999, 0, 0, -9999, -9997, 1),
    ]
]
OTHERS = [("number", (-2, 0, 1), 0), ("number", (2, -4, 1), 1), ("number", (1, -3, 1), 1), ("number", (-10, 6, 1), 0),
          ("number", (1, 0, -10, 0, 1), 1), ("number", (-2, 0, 0, 0, 0, 0, 1), 0)]


def some_rows(degree):
    """Rows of a number of the degree."""
    units = [tuple([int(at == place) for at in range(degree)]) for place in range(degree)]
    return units + [(0,) * degree, (-1,) * degree, tuple(range(3, 3 + degree)), tuple([(-7) ** at for at in range(degree)])]


def some_cones(number):
    """The first cones of a number, by cuts."""
    cones = [first_cone(number)]
    for _ in range(4):
        cones.append(cut_cone(number, cones[-1]))
    return cones


def sums_of(cone, numbers):
    """The sum of the rows, each times its number."""
    return tuple([sum([number * row[at] for number, row in zip(numbers, cone)]) for at in range(len(cone))])


class Coordinates(unittest.TestCase):
    def test_times_the_rows_they_are_the_row(self):
        for number in ALONE + OTHERS:
            for cone in some_cones(number):
                for row in some_rows(len(cone)):
                    told = coordinates(number, cone, row)
                    check_call(self, coordinates, (number, cone, row), told)
                    self.assertEqual(sums_of(cone, told), row)

    def test_of_the_document(self):
        check_call(self, coordinates, (GOLDEN, ((0, 1), (-1, 1)), (-1, 3)), [2, 1])
        check_call(self, coordinates, (GOLDEN, ((0, 1), (-1, 1)), (0, 0)), [0, 0])
        check_call(self, coordinates, (GOLDEN, ((-1, 0), (0, 1)), (5, -7)), [-5, -7])
        check_call(self, coordinates, (("number", (-5, 1), 0), ((1,),), (-7,)), [-7])


class Led(unittest.TestCase):
    def test_by_powers(self):
        for number in ALONE + OTHERS:
            degree = len(number[1]) - 1
            for row in some_rows(degree):
                for many in [0, 1, 2, 5, 6, 7, 30, 400]:
                    told, under = mix_times(number, (row, 1), power_mix(number, many))
                    self.assertEqual(under, 1)
                    check_call(self, led, (number, row, many), told)

    def test_known_ones(self):
        check_call(self, led, (GOLDEN, (0, 1), 1), (-1, 3))
        check_call(self, led, (GOLDEN, (0, 1), 0), (0, 1))
        check_call(self, led, (PLASTIC, (1, 0, 0), 5), (1, 1, 1))
        check_call(self, led, (("number", (-2, 1), 0), (3,), 400), (3 * 2 ** 400,))


class Entering(unittest.TestCase):
    def test_none_ahead_of_the_told_one(self):
        for number in ALONE:
            cone = good_cone(number)
            for position, row in enumerate(cone):
                told = entering(number, cone, position)
                check_call(self, entering, (number, cone, position), told)
                self.assertGreater(min(coordinates(number, cone, led(number, row, told))), 0)
                for many in range(1, told):
                    self.assertLessEqual(min(coordinates(number, cone, led(number, row, many))), 0)

    def test_of_cones_that_are_not_good(self):
        seen = []
        for number in ALONE:
            for cone in some_cones(number):
                for position, row in enumerate(cone):
                    if mix_sign(number, (row, 1)) > 0:
                        told = entering(number, cone, position)
                        seen.append(told)
                        self.assertGreater(min(coordinates(number, cone, led(number, row, told))), 0)
                    else:
                        check_state(self, NotAbove, entering, number, cone, position)
        self.assertGreater(len(set(seen)), 5)

    def test_of_the_document(self):
        self.assertEqual([entering(GOLDEN, good_cone(GOLDEN), place) for place in range(2)], [1, 1])
        self.assertEqual([entering(PLASTIC, good_cone(PLASTIC), place) for place in range(3)], [5, 4, 3])
        check_call(self, entering, (("number", (-1, 1), 0), ((1,),), 0), 1)

    def test_a_row_that_is_without_again(self):
        # It enters at the told length though at some greater ones it is without.
        seen = 0
        for number in ALONE:
            cone = good_cone(number)
            for position, row in enumerate(cone):
                told = entering(number, cone, position)
                for many in range(told + 1, min(told + 30, 400)):
                    seen += min(coordinates(number, cone, led(number, row, many))) <= 0
        self.assertGreater(seen, 0)

    def test_not_alone_then_not_above(self):
        for number in OTHERS:
            for cone in some_cones(number):
                for position in range(len(cone)):
                    check_state(self, NotAlone, entering, number, cone, position)
        check_state(self, NotAbove, entering, GOLDEN, ((-1, 0), (0, 1)), 0)
        check_state(self, NotAbove, entering, PLASTIC, ((-1, -1, 1), (1, 0, 0), (0, 1, 0)), 0)

    def test_just_four_hundred(self):
        number = ("number", (-7391, 1150, -59, 1), 0)
        cone = ((4413, -484, 13), (5443, -597, 16), (5221, -572, 16))
        check_call(self, entering, (number, cone, 1), 400)

    def test_too_late(self):
        number = ("number", (3243, -1764, 354, -31, 1), 0)
        cone = good_cone(number)
        late = 0
        for position, row in enumerate(cone):
            lengths = [many for many in range(1, 401) if min(coordinates(number, cone, led(number, row, many))) > 0]
            if lengths:
                check_call(self, entering, (number, cone, position), lengths[0])
            else:
                late += 1
                found = check_state(self, TooMany, entering, number, cone, position)
                self.assertEqual((found.what, found.limit), ("lengths", 400))
        self.assertGreater(late, 0)


class Wrong(unittest.TestCase):
    def test_wrong_values(self):
        for number in [GOLDEN, PLASTIC, ("number", (-5, 1), 0)]:
            cone = good_cone(number)
            degree = len(cone)
            check_wrong(self, coordinates, (number, cone, (1,) * degree), [BAD_NUMBER, bad_cone(cone), bad_told_row(degree)])
            check_wrong(self, led, (number, (1,) * degree, 3), [BAD_NUMBER, bad_told_row(degree), bad_many(400)])
            check_wrong(self, entering, (number, cone, 0), [BAD_NUMBER, bad_cone(cone), bad_position(degree)])

    def test_the_first_wrong_parameter_decides(self):
        root = ("number", (-2, 0, 1), 0)
        check_state(self, InvalidCone, coordinates, root, ((0, 1), (1, 1)), [1])
        check_state(self, InvalidRow, coordinates, root, ((1, 0), (0, 1)), [1, 1])
        check_state(self, InvalidRow, led, root, (1,), 401)
        check_state(self, InvalidMany, led, root, (1, 1), 401)
        check_state(self, InvalidCone, entering, root, ((-1, 0), (0, 1)), 2)
        check_state(self, InvalidPosition, entering, root, ((1, 0), (0, 1)), 2)
        check_state(self, NotAlone, entering, root, ((1, 0), (0, 1)), 1)


if __name__ == "__main__":
    unittest.main()
