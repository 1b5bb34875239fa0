"""Roots of a POLYNOMIAL counted by their sizes, each as often as it stands."""

from whichpaces.checks import check_many
from whichpaces.circles import greatest_size_floor, ring_counts
from whichpaces.errors import InvalidRatio, IsNought, NoRoots
from whichpaces.polynomials import check_polynomial
from whichpaces.ratios import check_ratio

MOST_PLACES = 60


def check_ratio_above_nought(ratio):
    """Refuse what is no RATIO above 0."""
    check_ratio(ratio)
    if ratio[0] <= 0:
        raise InvalidRatio(ratio)


def ring_count(polynomial, ratio):
    """How many roots lie within, on and beyond the ring of the RATIO."""
    check_polynomial(polynomial)
    check_ratio_above_nought(ratio)
    if not polynomial:
        raise IsNought()
    return ring_counts(polynomial, ratio[0], ratio[1])


def size_floor(polynomial, many):
    """The greatest INTEGER at most 2 ** many times the greatest size of a root."""
    check_polynomial(polynomial)
    check_many(many, 0, MOST_PLACES)
    if len(polynomial) < 2:
        raise NoRoots()
    return greatest_size_floor(polynomial, many)
