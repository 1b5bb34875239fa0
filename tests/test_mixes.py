"""MIXES [6], [54]."""

import random
import unittest
from fractions import Fraction

from helpers import BAD_DIVISOR, BAD_NUMBER, bad_many, bad_mix, bad_row, check_call, check_state, check_wrong
from helpers import divisor_of

from whichpaces.errors import DividedByNought, InvalidInteger, InvalidMany, InvalidMix, InvalidNumber, InvalidRow
from whichpaces.mixes import is_mix, mix_made, mix_minus, mix_over, mix_plus, mix_times, power_mix

NUMBERS = [
    ("number", (-7, 1), 0),
    ("number", (-9999, 1), 0),
    ("number", (-1, -1, 1), 0),
    ("number", (2, -4, 1), 1),
    ("number", (-1, -1, 0, 1), 0),
    ("number", (1, 0, -10, 0, 1), 1),
    ("number", (1, -1, 0, 0, -3, 1), 0),
    ("number", (-9999, 9999, -9999, 9999, -9999, 9997, 1), 0),
    ("number", (-2, 0, 0, 0, 0, 0, 1), 0),
]
SQUARE = NUMBERS[2]


def degree_of(number):
    """The degree of a number."""
    return len(number[1]) - 1


def fractions_of(mix):
    """The Fractions that a mix tells, from the power 0 on."""
    return [Fraction(number, mix[1]) for number in mix[0]]


def as_mix(numbers):
    """Fractions, from the power 0 on, as a MIX."""
    under = 1
    for number in numbers:
        under *= number.denominator
    row = [int(number * under) for number in numbers]
    common = divisor_of(row + [under])
    return tuple([number // common for number in row]), under // common


def led_down(least, numbers):
    """What is left of the powers of the root from the degree on, told plainly."""
    numbers = list(numbers)
    while len(numbers) >= len(least):
        top = numbers.pop()
        for place in range(len(least) - 1):
            numbers[len(numbers) - len(least) + 1 + place] -= top * least[place]
    return numbers + [Fraction(0)] * (len(least) - 1 - len(numbers))


def plain_product(number, mix, other):
    """The product of two mixes, told plainly."""
    total = [Fraction(0)] * (2 * degree_of(number) - 1)
    for power, factor in enumerate(fractions_of(mix)):
        for place, more in enumerate(fractions_of(other)):
            total[power + place] += factor * more
    return as_mix(led_down(number[1], total))


def some_mixes(number, seed):
    """Some mixes of the number, 0 and the powers among them."""
    chance = random.Random(seed)
    degree = degree_of(number)
    found = [((0,) * degree, 1), ((-1,) + (0,) * (degree - 1), 3)]
    found += [((0,) * place + (1,) + (0,) * (degree - place - 1), 1) for place in range(degree)]
    for size in [3, 3, 1000, 10 ** 39]:
        row = [Fraction(chance.randint(-size, size), chance.randint(1, size)) for _ in range(degree)]
        found.append(as_mix([number.limit_denominator(60) for number in row]))
    return found


class Mixes(unittest.TestCase):
    def test_what_a_mix_is(self):
        for number in NUMBERS:
            for mix in some_mixes(number, 1):
                check_call(self, is_mix, (number, mix), True)
            _, wrong = bad_mix(degree_of(number))
            for value in wrong:
                self.assertIs(is_mix(number, value), False, (number, value))

    def test_mixes_of_other_degrees(self):
        for number in NUMBERS:
            for other in NUMBERS:
                for mix in some_mixes(other, 2):
                    check_call(self, is_mix, (number, mix), degree_of(number) == degree_of(other))

    def test_made(self):
        for number in NUMBERS:
            for mix in some_mixes(number, 3):
                for factor in [1, -1, 6, -35, 10 ** 30]:
                    row, under = [factor * told for told in mix[0]], factor * mix[1]
                    check_call(self, mix_made, (number, row, under), mix)
                    check_call(self, mix_made, (number, tuple(row), under), mix)
        check_call(self, mix_made, (SQUARE, [0, 0], -7), ((0, 0), 1))
        check_call(self, mix_made, (SQUARE, [4, -6], -8), ((-2, 3), 4))

    def test_plus_and_minus(self):
        for number in NUMBERS:
            for mix in some_mixes(number, 4):
                for other in some_mixes(number, 5):
                    pairs = list(zip(fractions_of(mix), fractions_of(other)))
                    check_call(self, mix_plus, (number, mix, other), as_mix([one + two for one, two in pairs]))
                    check_call(self, mix_minus, (number, mix, other), as_mix([one - two for one, two in pairs]))

    def test_times(self):
        for number in NUMBERS:
            for mix in some_mixes(number, 6):
                for other in some_mixes(number, 7):
                    check_call(self, mix_times, (number, mix, other), plain_product(number, mix, other))

    def test_over(self):
        for number in NUMBERS:
            for other in [mix for mix in some_mixes(number, 8) if any(mix[0])]:
                for mix in some_mixes(number, 9):
                    quotient = mix_over(number, mix, other)
                    self.assertIs(is_mix(number, quotient), True)
                    self.assertEqual(mix_times(number, quotient, other), mix)
                    check_call(self, mix_over, (number, plain_product(number, mix, other), other), mix)

    def test_over_nought(self):
        for number in NUMBERS:
            for mix in some_mixes(number, 10):
                check_state(self, DividedByNought, mix_over, number, mix, ((0,) * degree_of(number), 1))

    def test_powers(self):
        for number in NUMBERS:
            power = [Fraction(1)] + [Fraction(0)] * (degree_of(number) - 1)
            for many in range(401):
                if many in [0, 1, 2, 5, 6, 7, 12, 59, 399, 400]:
                    check_call(self, power_mix, (number, many), as_mix(power))
                power = led_down(number[1], [Fraction(0)] + power)

    def test_powers_with_few_figures(self):
        check_call(self, power_mix, (SQUARE, 30), ((514229, 832040), 1))
        check_call(self, power_mix, (("number", (-2, 1), 0), 400), ((2 ** 400,), 1))
        check_call(self, power_mix, (("number", (-2, 0, 1), 0), 400), ((2 ** 200, 0), 1))
        check_call(self, power_mix, (("number", (-2, 0, 1), 0), 399), ((0, 2 ** 199), 1))

    def test_what_came_may_be_passed_on(self):
        told = power_mix(SQUARE, 400)
        self.assertIs(is_mix(SQUARE, told), True)
        self.assertEqual(mix_over(SQUARE, told, power_mix(SQUARE, 399)), ((0, 1), 1))


class Wrong(unittest.TestCase):
    def test_wrong_values(self):
        for number in [NUMBERS[0], NUMBERS[2], NUMBERS[7]]:
            degree = degree_of(number)
            mix = ((1,) * degree, 2)
            check_wrong(self, mix_made, (number, [1] * degree, 2), [BAD_NUMBER, bad_row(degree), BAD_DIVISOR])
            check_wrong(self, power_mix, (number, 2), [BAD_NUMBER, bad_many(400)])
            for function in [mix_plus, mix_minus, mix_times, mix_over]:
                check_wrong(self, function, (number, mix, mix), [BAD_NUMBER, bad_mix(degree), bad_mix(degree)])
        check_wrong(self, lambda number: is_mix(number, None), (SQUARE,), [BAD_NUMBER])
        check_wrong(self, lambda number: is_mix(number, ((1,), 1)), (SQUARE,), [BAD_NUMBER])

    def test_the_first_wrong_parameter_decides(self):
        nought = ((0, 0), 1)
        check_state(self, InvalidNumber, mix_over, None, None, nought)
        check_state(self, InvalidMix, mix_over, SQUARE, ((1, 0), 0), nought)
        check_state(self, InvalidMix, mix_over, SQUARE, nought, ((0, 0), 2))
        check_state(self, InvalidRow, mix_made, SQUARE, [1], 0)
        check_state(self, InvalidInteger, mix_made, SQUARE, [1, 1], 0)
        check_state(self, InvalidNumber, power_mix, ("number", (-1, 0, 1), 0), 401)
        check_state(self, InvalidMany, power_mix, SQUARE, 401)


if __name__ == "__main__":
    unittest.main()
