"""Where a NUMBER stands among its conjugates."""

from whichpaces.circles import reaches, ring_counts
from whichpaces.coefficients import content
from whichpaces.errors import NotBeyond
from whichpaces.ratios import lowest
from whichpaces.sturm import floor_of_root, sturm_row
from whichpaces.told import check_number

FIRST_PLACES = 8


def beat_of(least):
    """The common beat of a number with this least polynomial."""
    return content([power for power, number in enumerate(least) if number])


def are_all_but_one_within(least, low, under):
    """Whether all roots but one lie within the ring of low / under."""
    if low == 0:
        return False
    within, _, _ = ring_counts(least, low, under)
    return within == len(least) - 2


def ring_of(least, position):
    """A ring, (number, under), just above the root of the position that another root reaches.

    None if all others are less in size. For a root that is less than none,
    as great as some, there is no answer: its common beat is above 1.
    """
    rows = sturm_row(least)
    places = FIRST_PLACES
    low = floor_of_root(rows, position, places)
    while not are_all_but_one_within(least, low, 1 << places):
        if reaches(least, low + 1, 1 << places):
            return low + 1, 1 << places
        places *= 2
        low = floor_of_root(rows, position, places)
    return None


def standing_of(number):
    """The standing of a NUMBER."""
    _, least, position = number
    beat = beat_of(least)
    # The number to the power of its common beat is the root of this position of what is left.
    if ring_of(least[::beat], position) is not None:
        return "beyond"
    return "alone" if beat == 1 else "beats"


def common_beat(number):
    """The common beat of the NUMBER."""
    check_number(number)
    return beat_of(number[1])


def standing(number):
    """Where the NUMBER stands: "alone", "beats" or "beyond"."""
    check_number(number)
    return standing_of(number)


def ring_for(number):
    """A RATIO above the NUMBER such that some conjugate is at least as great in size."""
    check_number(number)
    if standing_of(number) != "beyond":
        raise NotBeyond()
    above, under = ring_of(number[1], number[2])
    return lowest(above, under)
