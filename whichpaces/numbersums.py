"""Sums, products, powers and roots of NUMBERS."""

from whichpaces.checks import check_many
from whichpaces.coefficients import single, spread
from whichpaces.errors import TooMany
from whichpaces.factors import factors_of
from whichpaces.newton import powers_of_roots, products_of_pairs, sums_of_pairs
from whichpaces.picking import number_at, number_between
from whichpaces.sturm import floor_of_root, roots_between, sturm_row
from whichpaces.told import MOST_DEGREE, check_number

MOST_POWER = 12
MOST_ROOT = 6
MOST_ROOT_DEGREE = 12
FIRST_PLACES = 16


def check_pair(number, other):
    """Refuse what are no two NUMBERS, and those of too great degrees."""
    check_number(number)
    check_number(other)
    if (len(number[1]) - 1) * (len(other[1]) - 1) > MOST_DEGREE:
        raise TooMany("degree", MOST_DEGREE)


def floor_with(number, places):
    """The floor of a NUMBER with so many places."""
    return floor_of_root(sturm_row(number[1]), number[2], places)


def sum_bounds(number, other, places):
    """Two pairs (number, under) between which the sum of both NUMBERS lies."""
    low = floor_with(number, places) + floor_with(other, places)
    return (low - 1, 1 << places), (low + 2, 1 << places)


def product_bounds(number, other, places):
    """Two pairs (number, under) between which the product of both NUMBERS lies."""
    here = floor_with(number, places)
    there = floor_with(other, places)
    return (here * there - 1, 1 << (2 * places)), ((here + 1) * (there + 1), 1 << (2 * places))


def power_of(number, many):
    """The number to the power."""
    power = 1
    for _ in range(many):
        power *= number
    return power


def power_bounds(number, many, places):
    """Two pairs (number, under) between which the power of the NUMBER lies."""
    low = floor_with(number, places)
    return (power_of(low, many) - 1, 1 << (many * places)), (power_of(low + 1, many), 1 << (many * places))


def found_by(bounds, one, other, whole, parts):
    """The NUMBER among the real roots of the whole that bounds, a function of both and of places, lies around."""
    rows = sturm_row(whole)
    places = FIRST_PLACES
    low, high = bounds(one, other, places)
    while roots_between(rows, low, high) != 1:
        places *= 2
        low, high = bounds(one, other, places)
    return number_between(parts, low, high)


def number_sum(number, other):
    """The sum of two NUMBERS."""
    check_pair(number, other)
    whole = single(sums_of_pairs(number[1], other[1]))
    return found_by(sum_bounds, number, other, whole, factors_of(whole))


def number_product(number, other):
    """The product of two NUMBERS."""
    check_pair(number, other)
    whole = single(products_of_pairs(number[1], other[1]))
    return found_by(product_bounds, number, other, whole, factors_of(whole))


def number_power(number, many):
    """The NUMBER to a power from 1 on."""
    check_number(number)
    check_many(many, 1, MOST_POWER)
    # Its roots are those of one least polynomial, each as often.
    least = single(powers_of_roots(number[1], many))
    return found_by(power_bounds, number, many, least, [least])


def number_root(number, many):
    """The root of so many of a NUMBER, above 0."""
    check_number(number)
    check_many(many, 1, MOST_ROOT)
    if (len(number[1]) - 1) * many > MOST_ROOT_DEGREE:
        raise TooMany("degree", MOST_ROOT_DEGREE)
    whole = spread(number[1], many)
    # The roots above 0 stand in the sequence of those of which they are roots.
    return number_at(whole, factors_of(whole), number[2])
