"""Real roots counted by a row of polynomials (Sturm).

A Sturm row begins with the single one of a polynomial and its slope; the
rests follow, each with the other sign. What it counts are unlike roots.
"""

from whichpaces.coefficients import sign_of, signed_rests, single, slope, worth_times
from whichpaces.signs import changes

FIRST_PLACES = 16


def sturm_row(polynomial):
    """The Sturm row of a polynomial that is not nought."""
    first = single(polynomial)
    return signed_rests(first, slope(first))


def changes_at(rows, number, under):
    """How many changes of signs the rows have at number / under."""
    return changes([worth_times(row, number, under) for row in rows])


def changes_far_above(rows):
    """How many changes of signs the rows have above all their roots."""
    return changes([row[-1] for row in rows])


def changes_far_below(rows):
    """How many changes of signs the rows have below all their roots."""
    return changes([-row[-1] if len(row) % 2 == 0 else row[-1] for row in rows])


def roots_in_all(rows):
    """How many unlike real roots there are."""
    return changes_far_below(rows) - changes_far_above(rows)


def roots_above(rows, number, under):
    """How many unlike real roots are above number / under."""
    return changes_at(rows, number, under) - changes_far_above(rows)


def is_root(rows, number, under):
    """Whether number / under is a root."""
    return worth_times(rows[0], number, under) == 0


def roots_from(rows, number, under):
    """How many unlike real roots are at number / under or above it."""
    many = roots_above(rows, number, under)
    return many + 1 if is_root(rows, number, under) else many


def roots_between(rows, low, high):
    """How many unlike real roots are above low and below high, pairs (number, under), low below high."""
    return roots_above(rows, low[0], low[1]) - roots_from(rows, high[0], high[1])


def root_bound(row):
    """An integer that is greater than the size of each root."""
    return 2 + max([abs(number) for number in row]) // abs(row[-1])


def whole_floor(rows, position):
    """The greatest integer at most the root of the position."""
    high = root_bound(rows[0])
    low = -high
    while high - low > 1:
        middle = (low + high) // 2
        if roots_from(rows, middle, 1) > position:
            low = middle
        else:
            high = middle
    return low


def sign_just_below(rows, number, under):
    """The sign of the single one a little below number / under."""
    sign = sign_of(worth_times(rows[0], number, under))
    if sign == 0:
        return -sign_of(worth_times(rows[1], number, under))
    return sign


def is_only_root(rows, low, under):
    """Whether just one root is at low / under or above, and below (low + 1) / under."""
    return roots_from(rows, low, under) - roots_from(rows, low + 1, under) == 1


def floor_of_root(rows, position, many):
    """The greatest integer at most 2 ** many times the root of the position."""
    low = whole_floor(rows, position)
    under = 1
    sign_above = 0
    for _ in range(many):
        # Where no other root is near, one sign tells what else the whole row tells.
        if sign_above == 0 and is_only_root(rows, low, under):
            sign_above = sign_just_below(rows, low + 1, under)
        under *= 2
        low *= 2
        if sign_above:
            if sign_of(worth_times(rows[0], low + 1, under)) != sign_above:
                low += 1
        elif roots_from(rows, low + 1, under) > position:
            low += 1
    return low


def unlike_compared(rows, position, rows_there, position_there):
    """1 if the first root is the greater one, -1 if the other one is: they are not the same."""
    places = FIRST_PLACES
    apart = 0
    while apart == 0:
        apart = floor_of_root(rows, position, places) - floor_of_root(rows_there, position_there, places)
        places *= 2
    return sign_of(apart)
