"""Second roots of a NUMBER, and its multiplier where it has none."""

from whichpaces.errors import NoHub, TooMany
from whichpaces.fans import direction_rows, row_plus
from whichpaces.sights import row_sign, sight_of
from whichpaces.sturm import roots_above, sturm_row
from whichpaces.told import check_number

MOST_MULTIPLIER = 54


def second_roots_of(least):
    """How many second roots a NUMBER with this least polynomial has."""
    return roots_above(sturm_row(least), 0, 1) - 1


def second_roots(number):
    """How many second roots the NUMBER has."""
    check_number(number)
    return second_roots_of(number[1])


def times_one_and_t(rows):
    """The polynomial whose numbers are these rows, times 1 + t."""
    between = [row_plus(row, other, 1) for row, other in zip(rows, rows[1:])]
    return [rows[0]] + between + [rows[-1]]


def multiplier(number):
    """The least COUNT of times by which 1 + t leaves numbers above 0 alone in the polynomial without the NUMBER."""
    check_number(number)
    if second_roots_of(number[1]):
        raise NoHub()
    # The numbers grow by one bit with each time at most.
    sight = sight_of(number, MOST_MULTIPLIER)
    rows = direction_rows(number[1])
    for many in range(MOST_MULTIPLIER + 1):
        if all([row_sign(sight, row) > 0 for row in rows]):
            return many
        rows = times_one_and_t(rows)
    raise TooMany("multiplier", MOST_MULTIPLIER)
