"""CONES of NUMBERS [81] to [84], [86]."""

import random
import unittest
from fractions import Fraction

from helpers import BAD_NUMBER, NO_NUMBERS, bad_cone, check_call, check_state, check_wrong, real_roots

from whichpaces.cones import cone_parts, cut_cone, direction, first_cone, good_cone, is_cone, rows_above
from whichpaces.errors import InvalidCone, InvalidNumber, TooMany
from whichpaces.mixes import mix_made, mix_minus, mix_plus, mix_times
from whichpaces.numbers import mix_sign

LEAST = [
    (-1, 1), (-9999, 1), (-2, 0, 1), (-1, -1, 1), (1, -3, 1), (2, -4, 1), (-1, -1, 0, 1), (-1, 1, -2, 1),
    (1, -3, 0, 1), (1, 0, -10, 0, 1), (-1, -1, 0, 0, 1), (5, 5, -1, -3, -5, 1), (1, -1, 0, 0, -3, 1),
    (-2, 0, 0, 0, 0, 0, 1), (1, 0, -9, 0, 6, 0, 1), (-1, -30, -27, 12, -6, -1, 1), (-9999, 9999, 0, 0, -9999, 9997, 1),
]
NUMBERS = [
    ("number", least, position) for least in LEAST
    for position in range(len([root for root in real_roots(least) if root > 0]))
]
GOLDEN, PLASTIC = ("number", (1, -3, 1), 0), ("number", (-1, -1, 0, 1), 0)


def degree_of(number):
    """The degree of a number."""
    return len(number[1]) - 1


def whole_mix(number, many):
    """The mix that is an integer."""
    return mix_made(number, [many] + [0] * (degree_of(number) - 1), 1)


def determinant(rows):
    """The determinant of a square table, told plainly."""
    rows = [[Fraction(number) for number in row] for row in rows]
    total = Fraction(1)
    for place in range(len(rows)):
        found = [at for at in range(place, len(rows)) if rows[at][place]]
        if not found:
            return 0
        if found[0] != place:
            rows[place], rows[found[0]] = rows[found[0]], rows[place]
            total = -total
        total *= rows[place][place]
        for at in range(place + 1, len(rows)):
            factor = rows[at][place] / rows[place][place]
            rows[at] = [one - factor * other for one, other in zip(rows[at], rows[place])]
    return total


def sums_of(number, cone, parts):
    """The sum of the rows, each times its part, place by place."""
    total = []
    for place in range(len(cone)):
        told = whole_mix(number, 0)
        for row, part in zip(cone, parts):
            told = mix_plus(number, told, mix_times(number, part, whole_mix(number, row[place])))
        total.append(told)
    return total


def is_plainly_good(number, cone):
    """Whether all rows have worths above 0."""
    return all([mix_sign(number, (row, 1)) == 1 for row in cone])


def plain_cut(number, cone):
    """The next cone, by its parts."""
    parts = cone_parts(number, cone)
    first, last = cone[0], cone[-1]
    added = tuple([one + other for one, other in zip(first, last)])
    greater = mix_sign(number, mix_minus(number, parts[0], parts[-1]))
    return ((first if greater == 1 else last), added) + cone[1:-1]


class Directions(unittest.TestCase):
    def test_times_t_less_the_number(self):
        for number in NUMBERS:
            least, degree = number[1], degree_of(number)
            told = direction(number)
            check_call(self, direction, (number,), told)
            self.assertEqual(len(told), degree)
            self.assertEqual(told[-1], whole_mix(number, 1))
            root = mix_made(number, [0, 1] + [0] * (degree - 2) if degree > 1 else [-least[0]], 1)
            for power in range(degree + 1):
                part = told[power - 1] if power else whole_mix(number, 0)
                less = mix_times(number, root, told[power]) if power < degree else whole_mix(number, 0)
                self.assertEqual(mix_minus(number, part, less), whole_mix(number, least[power]))

    def test_known_ones(self):
        check_call(self, direction, (GOLDEN,), [((-3, 1), 1), ((1, 0), 1)])
        check_call(self, direction, (PLASTIC,), [((-1, 0, 1), 1), ((0, 1, 0), 1), ((1, 0, 0), 1)])
        check_call(self, direction, (("number", (-5, 1), 0),), [((1,), 1)])
        check_call(self, direction, (("number", (-1, 1, -2, 1), 0),), [((1, -2, 1), 1), ((-2, 1, 0), 1), ((1, 0, 0), 1)])


class What(unittest.TestCase):
    def test_first_cones_and_those_that_come_of_them(self):
        for number in NUMBERS:
            cone = first_cone(number)
            for _ in range(25):
                check_call(self, is_cone, (number, cone), True)
                cone = cut_cone(number, cone)

    def test_what_is_almost_one(self):
        for number in NUMBERS:
            cone = first_cone(number)
            for _ in range(3):
                for value in bad_cone(cone)[1]:
                    self.assertIs(is_cone(number, value), False, (number, value))
                cone = cut_cone(number, cone)

    def test_rows_in_another_sequence_are_a_cone(self):
        for number in NUMBERS:
            cone = first_cone(number)
            check_call(self, is_cone, (number, cone[::-1]), True)
            self.assertEqual(cone_parts(number, cone[::-1]), cone_parts(number, cone)[::-1])

    def test_small_tables_each(self):
        # By hand: the direction is x - 3 and 1, so -0.381.. and 1.
        seen = 0
        for one in range(-2, 3):
            for two in range(-2, 3):
                for three in range(-2, 3):
                    for four in range(-2, 3):
                        cone = ((one, two), (three, four))
                        under = one * four - two * three
                        told = False
                        if under in (1, -1):
                            x = (3 + 5 ** 0.5) / 2
                            told = ((x - 3) * four - three) * under > 0 and (one - (x - 3) * two) * under > 0
                            seen += told
                        check_call(self, is_cone, (GOLDEN, cone), told)
        self.assertGreater(seen, 10)

    def test_of_degree_one(self):
        for number in [("number", (-1, 1), 0), ("number", (-9999, 1), 0)]:
            for value, told in [(((1,),), True), (((-1,),), False), (((2,),), False), (((0,),), False), (((True,),), False),
                                ((1,), False), ((), False), (((1,), (1,)), False), ([(1,)], False), (([1],), False)]:
                check_call(self, is_cone, (number, value), told)

    def test_determinants(self):
        for cone, told in [(((-1, 0), (0, 1)), True), (((-1, 0), (0, 2)), False), (((-2, 1), (-1, 1)), False),
                           (((-1, 1), (-1, 1)), False), (((0, 0), (0, 0)), False), (((0, 1), (-1, 1)), True),
                           (((0, 1), (-1, 2)), True), (((0, 1), (-2, 1)), False), (((0, 1), (1, 0)), False)]:
            check_call(self, is_cone, (GOLDEN, cone), told)


class Parts(unittest.TestCase):
    def test_parts_times_rows_are_the_direction(self):
        for number in NUMBERS:
            cone = first_cone(number)
            for _ in range(5):
                parts = cone_parts(number, cone)
                check_call(self, cone_parts, (number, cone), parts)
                self.assertEqual(sums_of(number, cone, parts), direction(number))
                self.assertEqual([mix_sign(number, part) for part in parts], [1] * len(cone))
                cone = cut_cone(number, cone)

    def test_parts_fall(self):
        for number in [number for number in NUMBERS if degree_of(number) > 1]:
            cone = first_cone(number)
            for _ in range(12):
                parts = cone_parts(number, cone)
                cone = cut_cone(number, cone)
                one, other = parts[0], parts[-1]
                if mix_sign(number, mix_minus(number, one, other)) < 0:
                    one, other = other, one
                self.assertEqual(cone_parts(number, cone), [mix_minus(number, one, other), other] + parts[1:-1])


class Cut(unittest.TestCase):
    def test_first_cones(self):
        for number in NUMBERS:
            told = []
            for place, mix in enumerate(direction(number)):
                told.append(tuple([mix_sign(number, mix) if at == place else 0 for at in range(degree_of(number))]))
            check_call(self, first_cone, (number,), tuple(told))

    def test_cuts_of_both_kinds(self):
        kinds = []
        for number in [number for number in NUMBERS if degree_of(number) > 1]:
            cone = first_cone(number)
            for _ in range(20):
                told = plain_cut(number, cone)
                check_call(self, cut_cone, (number, cone), told)
                self.assertEqual(abs(determinant(told)), 1)
                kinds.append((degree_of(number), told[0] == cone[0]))
                cone = told
        for degree in range(2, 7):
            self.assertIn((degree, True), kinds)
            self.assertIn((degree, False), kinds)

    def test_known_cuts(self):
        check_call(self, cut_cone, (GOLDEN, ((-1, 0), (0, 1))), ((0, 1), (-1, 1)))
        # The parts are x - 2 and 3 - x: 0.618.. and 0.381..
        check_call(self, cut_cone, (GOLDEN, ((0, 1), (-1, 1))), ((0, 1), (-1, 2)))
        check_call(self, cut_cone, (GOLDEN, ((-1, 1), (0, 1))), ((0, 1), (-1, 2)))
        # The parts of the first cone are 0.754.., 1.324.. and 1.
        check_call(self, cut_cone, (PLASTIC, ((1, 0, 0), (0, 1, 0), (0, 0, 1))), ((0, 0, 1), (1, 0, 1), (0, 1, 0)))
        check_call(self, cut_cone, (("number", (-5, 1), 0), ((1,),)), ((1,),))

    def test_rows_above(self):
        for number in NUMBERS:
            cone = first_cone(number)
            for _ in range(8):
                told = [place for place, row in enumerate(cone) if mix_sign(number, (row, 1)) == 1]
                check_call(self, rows_above, (number, cone), told)
                cone = cut_cone(number, cone)
        check_call(self, rows_above, (GOLDEN, ((-1, 0), (0, 1))), [1])
        check_call(self, rows_above, (GOLDEN, ((0, 1), (-1, 0))), [0])


class Good(unittest.TestCase):
    def test_none_of_the_ones_ahead_is_good(self):
        for number in NUMBERS:
            cone = first_cone(number)
            cuts = 0
            while not is_plainly_good(number, cone) and cuts < 60:
                cone = cut_cone(number, cone)
                cuts += 1
            if cuts < 60:
                check_call(self, good_cone, (number,), cone)
            else:
                self.assertNotEqual(number[2], 0)

    def test_numbers_that_are_not_alone(self):
        check_call(self, good_cone, (("number", (-2, 0, 1), 0),), ((1, 0), (0, 1)))
        check_call(self, good_cone, (("number", (-10, 6, 1), 0),), ((1, 0), (0, 1)))
        for least, position in [((2, -4, 1), 1), ((1, -3, 1), 1), ((22, -11, -22, 1), 1), ((5, 5, -1, -3, -5, 1), 1)]:
            found = check_state(self, TooMany, good_cone, ("number", least, position))
            self.assertEqual((found.what, found.limit), ("cuts", 400))

    def test_just_four_hundred_cuts(self):
        for least, cuts in [((7391, -341, -22, 1), 399), ((6114, -340, -18, 1), 400), ((6994, -369, -19, 1), 401),
                            ((5055, -228, -22, 1), 402)]:
            number = ("number", least, 0)
            cone = first_cone(number)
            for _ in range(cuts):
                self.assertIs(is_plainly_good(number, cone), False)
                cone = cut_cone(number, cone)
            self.assertIs(is_plainly_good(number, cone), True)
            if cuts <= 400:
                check_call(self, good_cone, (number,), cone)
            else:
                found = check_state(self, TooMany, good_cone, number)
                self.assertEqual((found.what, found.limit), ("cuts", 400))


class Wrong(unittest.TestCase):
    def test_wrong_values(self):
        for number in [GOLDEN, PLASTIC, ("number", (-5, 1), 0)]:
            cone = good_cone(number)
            for function in [direction, first_cone, good_cone]:
                check_wrong(self, function, (number,), [BAD_NUMBER])
            for function in [cone_parts, cut_cone, rows_above]:
                check_wrong(self, function, (number, cone), [BAD_NUMBER, bad_cone(cone)])
            check_wrong(self, lambda value: is_cone(value, None), (number,), [BAD_NUMBER])

    def test_the_first_wrong_parameter_decides(self):
        check_state(self, InvalidNumber, cut_cone, NO_NUMBERS[0], None)
        check_state(self, InvalidCone, cut_cone, GOLDEN, ((0, 1), (1, 0)))
        check_state(self, InvalidCone, rows_above, GOLDEN, ((1,),))
        check_state(self, InvalidCone, cone_parts, PLASTIC, ((-1, 0), (0, 1)))


if __name__ == "__main__":
    unittest.main()
