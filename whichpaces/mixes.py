"""MIXES of a NUMBER: sums of its powers, divided by an INTEGER."""

from math import gcd

from whichpaces.basics import is_integer
from whichpaces.checks import check_divisor, check_many
from whichpaces.coefficients import content
from whichpaces.errors import DividedByNought, InvalidMix, InvalidRow
from whichpaces.fields import mix_of, mix_product, mix_quotient, mix_sum, power_row
from whichpaces.told import check_number

MOST_POWER = 400


def are_integers(row, many):
    """Whether a list or a tuple has just so many INTEGERS."""
    if len(row) != many:
        return False
    return all([is_integer(number) for number in row])


def is_mix_of(least, value):
    """Whether the value is a MIX of a number with this least polynomial."""
    if not isinstance(value, tuple) or len(value) != 2:
        return False
    row, under = value
    if not isinstance(row, tuple) or not are_integers(row, len(least) - 1):
        return False
    return is_integer(under) and under >= 1 and gcd(content(row), under) == 1


def check_mix(number, value):
    """Refuse what is no MIX of the number."""
    if not is_mix_of(number[1], value):
        raise InvalidMix(value)


def is_mix(number, value):
    """Whether the value is a MIX of the number."""
    check_number(number)
    return is_mix_of(number[1], value)


def mix_made(number, row, under):
    """The MIX of the row's INTEGERS times the powers from 0 on, divided by under."""
    check_number(number)
    if not isinstance(row, (list, tuple)) or not are_integers(row, len(number[1]) - 1):
        raise InvalidRow(row)
    check_divisor(under)
    return mix_of(row, under)


def mix_plus(number, mix, other):
    """The sum of two MIXES."""
    check_number(number)
    check_mix(number, mix)
    check_mix(number, other)
    return mix_sum(mix, other, 1)


def mix_minus(number, mix, other):
    """The first MIX less the other one."""
    check_number(number)
    check_mix(number, mix)
    check_mix(number, other)
    return mix_sum(mix, other, -1)


def mix_times(number, mix, other):
    """The product of two MIXES."""
    check_number(number)
    check_mix(number, mix)
    check_mix(number, other)
    return mix_product(number[1], mix, other)


def mix_over(number, mix, other):
    """The first MIX divided by the other one."""
    check_number(number)
    check_mix(number, mix)
    check_mix(number, other)
    if not any(other[0]):
        raise DividedByNought()
    return mix_quotient(number[1], mix, other)


def power_mix(number, many):
    """The MIX of the number to a power."""
    check_number(number)
    check_many(many, 0, MOST_POWER)
    return mix_of(power_row(number[1], many), 1)
