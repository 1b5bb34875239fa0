"""Unlike real roots of a POLYNOMIAL: counted, and told by their floors."""

from whichpaces.basics import is_count
from whichpaces.checks import check_many
from whichpaces.errors import InvalidPosition, IsNought
from whichpaces.polynomials import check_polynomial
from whichpaces.ratios import check_ratio, ratio_compared
from whichpaces.sturm import floor_of_root, roots_above, roots_between, roots_in_all, sturm_row

MOST_PLACES = 400


def check_not_nought(polynomial):
    """Refuse nought, of which each number is a root."""
    if not polynomial:
        raise IsNought()


def real_count(polynomial):
    """How many unlike real roots there are."""
    check_polynomial(polynomial)
    check_not_nought(polynomial)
    return roots_in_all(sturm_row(polynomial))


def count_between(polynomial, low, high):
    """How many unlike real roots are above low and below high."""
    check_polynomial(polynomial)
    check_ratio(low)
    check_ratio(high)
    check_not_nought(polynomial)
    if ratio_compared(low, high) != -1:
        return 0
    return roots_between(sturm_row(polynomial), low, high)


def count_above(polynomial, ratio):
    """How many unlike real roots are above the RATIO."""
    check_polynomial(polynomial)
    check_ratio(ratio)
    check_not_nought(polynomial)
    return roots_above(sturm_row(polynomial), ratio[0], ratio[1])


def root_floor(polynomial, position, many):
    """The greatest INTEGER at most 2 ** many times the real root of the position."""
    check_polynomial(polynomial)
    check_not_nought(polynomial)
    rows = sturm_row(polynomial)
    if not is_count(position) or position >= roots_in_all(rows):
        raise InvalidPosition(position)
    check_many(many, 0, MOST_PLACES)
    return floor_of_root(rows, position, many)
