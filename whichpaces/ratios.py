"""RATIOS: tuples (number, under) without a common divisor, under from 1 on."""

from math import gcd

from whichpaces.basics import is_integer
from whichpaces.checks import check_divisor, check_integer
from whichpaces.errors import DividedByNought, InvalidRatio


def is_ratio(value):
    """Whether the value is a RATIO."""
    if not isinstance(value, tuple) or len(value) != 2:
        return False
    number, under = value
    if not is_integer(number) or not is_integer(under):
        return False
    return under >= 1 and gcd(number, under) == 1


def check_ratio(value):
    """Refuse what is no RATIO."""
    if not is_ratio(value):
        raise InvalidRatio(value)


def lowest(number, under):
    """The RATIO of two INTEGERS, under not 0."""
    common = gcd(number, under)
    if under < 0:
        common = -common
    return number // common, under // common


def ratio_made(number, under):
    """The RATIO of two INTEGERS."""
    check_integer(number)
    check_divisor(under)
    return lowest(number, under)


def ratio_plus(ratio, other):
    """The sum of two RATIOS."""
    check_ratio(ratio)
    check_ratio(other)
    return lowest(ratio[0] * other[1] + other[0] * ratio[1], ratio[1] * other[1])


def ratio_minus(ratio, other):
    """The first RATIO less the other one."""
    check_ratio(ratio)
    check_ratio(other)
    return lowest(ratio[0] * other[1] - other[0] * ratio[1], ratio[1] * other[1])


def ratio_times(ratio, other):
    """The product of two RATIOS."""
    check_ratio(ratio)
    check_ratio(other)
    return lowest(ratio[0] * other[0], ratio[1] * other[1])


def ratio_over(ratio, other):
    """The first RATIO divided by the other one."""
    check_ratio(ratio)
    check_ratio(other)
    if other[0] == 0:
        raise DividedByNought()
    return lowest(ratio[0] * other[1], ratio[1] * other[0])


def ratio_compared(ratio, other):
    """1 if the first RATIO is greater, -1 if the other one is, 0 of equal ones."""
    check_ratio(ratio)
    check_ratio(other)
    first = ratio[0] * other[1]
    second = other[0] * ratio[1]
    return (first > second) - (first < second)


def ratio_floor(ratio):
    """The greatest INTEGER at most the RATIO."""
    check_ratio(ratio)
    return ratio[0] // ratio[1]
