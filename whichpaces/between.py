"""RATIOS between the paces of two TABLES."""

from whichpaces.ratios import is_ratio, lowest
from whichpaces.sturm import floor_of_root, roots_above, roots_from, sturm_row
from whichpaces.tops import check_pair, own_polynomial, top_of, tops_compared

FIRST_PLACES = 1


def paces_compared(table, other):
    """1 if the first TABLE's pace is the greater one, -1 if the other's is, 0 of equal ones."""
    check_pair(table, other)
    return tops_compared(top_of(table), top_of(other))


def ratio_above(lesser, greater):
    """A RATIO above the greatest real root of the one polynomial and below that of the other, by their Sturm rows."""
    places = FIRST_PLACES
    above = floor_of_root(lesser, 0, places) + 1
    while roots_above(greater, above, 1 << places) == 0:
        places *= 2
        above = floor_of_root(lesser, 0, places) + 1
    return lowest(above, 1 << places)


def ratio_between(table, other):
    """A RATIO between both paces, None of equal ones."""
    check_pair(table, other)
    here = top_of(table)
    there = top_of(other)
    told = tops_compared(here, there)
    if told == 0:
        return None
    if told == 1:
        return ratio_above(sturm_row(there), sturm_row(here))
    return ratio_above(sturm_row(here), sturm_row(there))


def is_from_to(lesser, greater, ratio):
    """Whether the RATIO is above the pace of the lesser TABLE and below that of the greater one."""
    number, under = ratio
    if roots_from(sturm_row(own_polynomial(lesser)), number, under):
        return False
    return roots_above(sturm_row(own_polynomial(greater)), number, under) > 0


def is_between(table, other, value):
    """Whether the value is a RATIO between both paces."""
    check_pair(table, other)
    if not is_ratio(value):
        return False
    return is_from_to(table, other, value) or is_from_to(other, table, value)
