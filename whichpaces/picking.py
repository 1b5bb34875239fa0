"""NUMBERS picked out of least polynomials by what they lie between."""

from whichpaces.errors import TooMany
from whichpaces.sturm import floor_of_root, roots_between, roots_from, sturm_row
from whichpaces.told import MOST_DEGREE, MOST_SIZE

FIRST_PLACES = 16


def check_small(least):
    """Refuse a least polynomial that is too great for a NUMBER."""
    if len(least) - 1 > MOST_DEGREE:
        raise TooMany("degree", MOST_DEGREE)
    if max([abs(number) for number in least]) > MOST_SIZE:
        raise TooMany("size", MOST_SIZE)


def picked_part(parts, low, high):
    """The one of the least parts that has a root above low and below high, pairs (number, under)."""
    return [part for part in parts if roots_between(sturm_row(part), low, high) == 1][0]


def number_between(parts, low, high):
    """The NUMBER that is the only root of the least parts above low and below high."""
    least = picked_part(parts, low, high)
    check_small(least)
    return "number", least, roots_from(sturm_row(least), high[0], high[1])


def around_root(rows, position):
    """Two pairs (number, under) between which just one root lies, that at the position, by the Sturm row."""
    places = FIRST_PLACES
    low = floor_of_root(rows, position, places)
    # One less: the root itself may be what its floor tells.
    while roots_between(rows, (low - 1, 1 << places), (low + 1, 1 << places)) != 1:
        places *= 2
        low = floor_of_root(rows, position, places)
    return (low - 1, 1 << places), (low + 1, 1 << places)


def number_at(whole, parts, position):
    """The NUMBER that is the real root at the position of the whole, which has these least parts."""
    low, high = around_root(sturm_row(whole), position)
    return number_between(parts, low, high)
