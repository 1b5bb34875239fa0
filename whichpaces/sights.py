"""Numbers seen by their floors: signs and floors of rows, sums of their powers.

A sight is a tuple (least, low, places, lows, highs): the number is above low
and below low + 1, both divided by 2 ** places (of degree 1 it is the first of
both), and no other root of least is there. Behind that stand the powers of
both, each times a power of 2, as if all were divided as often as the last.
"""

from whichpaces.coefficients import sign_of, signed_rests, slope, trimmed
from whichpaces.fields import row_product
from whichpaces.sturm import changes_at, floor_of_root, sturm_row

# Two roots of a least polynomial of a NUMBER are more than 1 / 2 ** 84 apart (Mahler).
# The powers of a NUMBER below its degree, with the width of 36 rows, need fewer than 80.
PLACES = 128


def powers_of(number, places, many):
    """The powers of number / 2 ** places below many, all times the same power of 2."""
    powers = []
    power = 1
    for place in range(many):
        powers.append(power << (places * (many - 1 - place)))
        power *= number
    return powers


def sight_of(number, more):
    """A sight of a NUMBER with so many places more than it needs."""
    _, least, position = number
    places = PLACES + more
    low = floor_of_root(sturm_row(least), position, places)
    degree = len(least) - 1
    return least, low, places, powers_of(low, places, degree), powers_of(low + 1, places, degree)


def bounds(sight, row):
    """What the row's worth lies between, both times the same power of 2."""
    _, _, _, lows, highs = sight
    below = 0
    above = 0
    for number, low, high in zip(row, lows, highs):
        below += number * (low if number > 0 else high)
        above += number * (high if number > 0 else low)
    return below, above


def sign_by_rests(sight, row):
    """The sign of the row's worth, not 0, by changes of signs (Hermite)."""
    least, low, places, _, _ = sight
    # Between two RATIOS it tells how many roots of least give the row a worth above 0, less the others.
    rows = signed_rests(least, trimmed(row_product(least, slope(least), row)))
    return changes_at(rows, low, 1 << places) - changes_at(rows, low + 1, 1 << places)


def row_sign(sight, row):
    """The sign of the row's worth: -1, 0 or 1."""
    below, above = bounds(sight, row)
    if below == above:
        return sign_of(below)
    # Neither of both is the worth itself: a number of degree 2 or more is no RATIO.
    if below >= 0:
        return 1
    if above <= 0:
        return -1
    return sign_by_rests(sight, row)


def bits_of(row):
    """How many bits the greatest number of the row has."""
    return max([abs(number) for number in row]).bit_length()


def row_floor(number, row, under):
    """The greatest INTEGER at most the row's worth divided by under."""
    if not any(row[1:]):
        return row[0] // under
    sight = sight_of(number, bits_of(row))
    below, above = bounds(sight, row)
    scale = under << (sight[2] * (len(row) - 1))
    high = above // scale
    if below // scale == high:
        return high
    # Both are less than 1 apart, so one sign tells.
    rest = [row[0] - high * under] + list(row[1:])
    return high if row_sign(sight, rest) > 0 else high - 1
