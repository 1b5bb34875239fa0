"""What the tests share: wrong values, checks of refusals, plain reckoning beside the program."""

import copy
from fractions import Fraction
from math import gcd

from whichpaces.errors import InvalidInteger, InvalidMany, InvalidMix, InvalidNumber
from whichpaces.errors import InvalidPolynomial, InvalidPosition, InvalidRatio, InvalidRow

NO_INTEGERS = [True, False, None, "3", "", b"3", (3,), [3], {}, {3: 3}, int, object()]
NO_COUNTS = NO_INTEGERS + [-1, -10 ** 40]
NO_RATIOS = [
    True, False, None, 3, 0, "1/2", b"12", [1, 2], [], (), (1,), (1, 2, 3), (2, 4), (0, 2), (0, 0), (1, 0),
    (1, -2), (-1, -2), (0, -1), (True, 1), (1, True), (False, 1), ("1", 1), (1, "1"), (1, None), (None, 1),
    ((1, 1), 1), ([1], 1), (1, [1]), {1: 2}, object(), (6 * 10 ** 39, 4),
]
NO_POLYNOMIALS = [
    True, False, None, 3, 0, "12", "", b"\x01", [1, 1], [], {}, (0,), (1, 0), (0, 0, 0), (1, 2, 0), (True,),
    (1, True), (False, 1), (1, False, 1), ("1",), (1, "1"), (None, 1), (1, None), ((1,), 1), (1, [1]), ([], 1),
    (10 ** 6 + 1,), (-10 ** 6 - 1, 1), (1, 10 ** 6 + 1), (1, 10 ** 30, 1), (1,) * 14, (0,) * 13 + (1,),
    (1,) * 400, object(), ("number", (-1, 1), 0),
]
NO_NUMBERS = [
    True, None, 3, "number", (), [], object(), (-1, 1), {"number": 1}, ("number",), ("number", (-1, 1)),
    ["number", (-1, 1), 0], ("number", (-1, 1), 0, 0), ("Number", (-1, 1), 0), (b"number", (-1, 1), 0),
    (True, (-1, 1), 0), (None, (-1, 1), 0), (("number",), (-1, 1), 0), ("number", [-1, 1], 0),
    ("number", (-1, 1), 1), ("number", (-1, 1), -1), ("number", (-1, 1), True), ("number", (-1, 1), False),
    ("number", (-1, 1), None), ("number", (-1, 1), "0"), ("number", (-1, 1), (0,)), ("number", (-1, True), 0),
    ("number", (True, 1), 0), ("number", (-1, 2), 0), ("number", (1, -1), 0), ("number", (), 0),
    ("number", (1,), 0), ("number", (0, 1), 0), ("number", (1, 1), 0), ("number", (-1, 0, 1), 0),
    ("number", (1, -2, 1), 0), ("number", (1, 0, 1), 0), ("number", (-2, 0, 1), 1), ("number", (-2, 0, 1), 2),
    ("number", (-10000, 1), 0), ("number", (-2, 10000, 1), 0), ("number", (-2, 0, 0, 0, 0, 0, 0, 1), 0),
    ("number", (1, 0, -10, 0, 1), 2), ("number", (4, 0, -5, 0, 1), 0), ("number", "-1 1", 0), ("number", None, 0),
    ("number", 5, 0), ("number", (-1, None), 0), ("number", (-1, 1, 0), 0),
]
BAD_INTEGER = (InvalidInteger, NO_INTEGERS)
BAD_DIVISOR = (InvalidInteger, NO_INTEGERS + [0])
BAD_RATIO = (InvalidRatio, NO_RATIOS)
BAD_POLYNOMIAL = (InvalidPolynomial, NO_POLYNOMIALS)
BAD_NUMBER = (InvalidNumber, NO_NUMBERS)


def bad_many(most):
    """Wrong values for a many from 0 to most."""
    return InvalidMany, NO_COUNTS + [most + 1, 10 ** 40]


def bad_position(bound):
    """Wrong values for a position below the bound."""
    return InvalidPosition, NO_COUNTS + [bound, bound + 1, 10 ** 40]


def bad_row(degree):
    """Wrong values for a list of as many INTEGERS as the degree."""
    right = [1] * degree
    wrong = [None, True, 3, "1" * degree, b"1" * degree, {1: 1}, object(), [], (), right + [1], right[1:]]
    wrong += [[True] + right[1:], right[1:] + [False], (None,) + (1,) * (degree - 1), right[1:] + ["1"]]
    return InvalidRow, wrong + [right[1:] + [[1]], [(1,)] + right[1:]]


def bad_mix(degree):
    """Wrong values for a MIX of a number of the degree."""
    one = (1,) + (0,) * (degree - 1)
    none = (0,) * degree
    wrong = [None, True, 1, "mix", (), [], object(), one, (one,), (one, 1, 1), [one, 1], (list(one), 1), (1, one)]
    wrong += [(one + (0,), 1), (one[1:], 1), ((), 1), (one, 0), (one, -1), (none, 2), (none, 0), (none, -1)]
    wrong += [((2,) + one[1:], 2), ((6,) + one[1:], 4), (one, True), ((True,) + one[1:], 1), (one, None)]
    wrong += [(one[1:] + (False,), 1), (one, "1"), (("1",) + one[1:], 1), ((None,) + one[1:], 1), (one, (1,))]
    return InvalidMix, wrong + [(((1,),) + one[1:], 1), ((one, 1), 1), ("1" * degree, 1)]


def check_refused(test, error, value, function, *args):
    """The call raises just this class of error, with the value that was passed."""
    with test.assertRaises(error, msg=(function, args)) as caught:
        function(*args)
    test.assertIs(type(caught.exception), error)
    test.assertIs(caught.exception.value, value)


def check_wrong(test, function, right, bad):
    """Each parameter is refused for each wrong value, also where wrong ones stand behind it."""
    test.assertEqual(len(right), len(bad))
    for place, (error, values) in enumerate(bad):
        for value in values:
            ahead = list(right[:place])
            behind = list(right[place + 1:])
            check_refused(test, error, value, function, *ahead, value, *behind)
            wrong = [values_behind[0] for _, values_behind in bad[place + 1:]]
            check_refused(test, error, value, function, *ahead, value, *wrong)


def check_state(test, error, function, *args):
    """The call raises just this class of error."""
    with test.assertRaises(error, msg=(function, args)) as caught:
        function(*args)
    test.assertIs(type(caught.exception), error)
    return caught.exception


def kinds_of(value):
    """The value with each integer, string and so on replaced by the name of its class."""
    if isinstance(value, (list, tuple)):
        return type(value)([kinds_of(item) for item in value])
    return type(value).__name__


def check_call(test, function, args, expected):
    """The call returns what is expected, of the same kinds, twice, and changes nothing passed."""
    kept = copy.deepcopy(args)
    first = function(*args)
    test.assertEqual(first, expected, (function, args))
    test.assertEqual(kinds_of(first), kinds_of(expected), (function, args))
    test.assertEqual(kinds_of(args), kinds_of(kept))
    test.assertEqual(args, kept)
    if isinstance(first, list):
        first.append("more")
        first.reverse()
    second = function(*args)
    test.assertEqual(second, expected, (function, args))
    test.assertEqual(kinds_of(second), kinds_of(expected))


def times(*rows):
    """The product of polynomials, told plainly."""
    total = {0: 1}
    for row in rows:
        found = {}
        for power, number in total.items():
            for more, factor in enumerate(row):
                found[power + more] = found.get(power + more, 0) + number * factor
        total = found
    top = max([power for power, number in total.items() if number], default=-1)
    return tuple([total.get(power, 0) for power in range(top + 1)])


def worth(row, number):
    """The worth of a polynomial at a Fraction or an int."""
    total = 0
    for factor in reversed(row):
        total = total * number + factor
    return total


def ratio(number, under=1):
    """A Fraction as a RATIO."""
    told = Fraction(number, under)
    return told.numerator, told.denominator


def divisor_of(numbers):
    """The greatest number that divides all."""
    common = 0
    for number in numbers:
        common = gcd(common, number)
    return common
