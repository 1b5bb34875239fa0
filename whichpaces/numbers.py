"""NUMBERS: real roots above 0 of least polynomials."""

from whichpaces.checks import check_many
from whichpaces.coefficients import sign_of, single
from whichpaces.errors import NotOne
from whichpaces.factors import factors_of
from whichpaces.mixes import check_mix
from whichpaces.picking import number_between
from whichpaces.polynomials import check_monic, check_polynomial
from whichpaces.ratios import check_ratio, ratio_compared
from whichpaces.sights import row_floor, row_sign, sight_of
from whichpaces.sturm import floor_of_root, roots_above, roots_between, roots_from, sturm_row, unlike_compared
from whichpaces.told import check_number, is_told

MOST_PLACES = 400
MOST_MIX_PLACES = 200


def is_number(value):
    """Whether the value is a NUMBER."""
    return is_told(value)


def is_one_root(polynomial, low, high):
    """Whether just one unlike real root is above low and below high, and that above 0."""
    if ratio_compared(low, high) != -1:
        return False
    rows = sturm_row(polynomial)
    if roots_between(rows, low, high) != 1:
        return False
    return roots_above(rows, 0, 1) > roots_from(rows, high[0], high[1])


def number_of(polynomial, low, high):
    """The NUMBER that is the only real root of the POLYNOMIAL above low and below high."""
    check_polynomial(polynomial)
    check_ratio(low)
    check_ratio(high)
    check_monic(polynomial)
    if not is_one_root(polynomial, low, high):
        raise NotOne()
    return number_between(factors_of(single(polynomial)), low, high)


def number_floor(number, many):
    """The greatest INTEGER at most 2 ** many times the NUMBER."""
    check_number(number)
    check_many(many, 0, MOST_PLACES)
    return floor_of_root(sturm_row(number[1]), number[2], many)


def number_compared(number, other):
    """1 if the first NUMBER is the greater one, -1 if the other one is, 0 if both are the same."""
    check_number(number)
    check_number(other)
    if number[1] == other[1]:
        return sign_of(other[2] - number[2])
    return unlike_compared(sturm_row(number[1]), number[2], sturm_row(other[1]), other[2])


def number_beside(number, ratio):
    """1 if the NUMBER is greater than the RATIO, -1 if it is the lesser one, 0 if both are the same."""
    check_number(number)
    check_ratio(ratio)
    rows = sturm_row(number[1])
    if roots_above(rows, ratio[0], ratio[1]) > number[2]:
        return 1
    return 0 if roots_from(rows, ratio[0], ratio[1]) > number[2] else -1


def mix_sign(number, mix):
    """The sign of a MIX: -1, 0 or 1."""
    check_number(number)
    check_mix(number, mix)
    return row_sign(sight_of(number, 0), mix[0])


def mix_floor(number, mix, many):
    """The greatest INTEGER at most 2 ** many times the MIX."""
    check_number(number)
    check_mix(number, mix)
    check_many(many, 0, MOST_MIX_PLACES)
    return row_floor(number, [factor << many for factor in mix[0]], mix[1])
