"""Cones of a number held as lists of tuples (row, part), to be cut again and again.

A part is held as the row of its mix, which needs no under.
"""

from whichpaces.equations import led_by
from whichpaces.fields import filled, led_once
from whichpaces.sights import row_sign

MOST_CUTS = 400


def direction_rows(least):
    """The numbers of the least polynomial divided by t less the number, from the power 0 on, as rows."""
    row = filled(least, (1,))
    rows = [row]
    for number in reversed(least[1:-1]):
        row = led_once(least, row)
        row = (row[0] + number,) + row[1:]
        rows.append(row)
    return rows[::-1]


def parts_by(least, inverse):
    """The parts, as rows, of the cone whose rows have this inverse."""
    rows = direction_rows(least)
    by_power = [led_by(numbers, inverse) for numbers in zip(*rows)]
    return [tuple(part) for part in zip(*by_power)]


def first_fan(sight):
    """The first cone."""
    fan = []
    for place, part in enumerate(direction_rows(sight[0])):
        sign = row_sign(sight, part)
        row = [0] * len(part)
        row[place] = sign
        fan.append((tuple(row), tuple([sign * number for number in part])))
    return fan


def row_plus(row, other, sign):
    """The first row and sign times the other one, place by place."""
    return tuple([number + sign * more for number, more in zip(row, other)])


def cut_fan(sight, fan):
    """The next cone, of a number of degree 2 or more."""
    kept, other = fan[0], fan[-1]
    if row_sign(sight, row_plus(kept[1], other[1], -1)) < 0:
        kept, other = other, kept
    lessened = (kept[0], row_plus(kept[1], other[1], -1))
    added = (row_plus(kept[0], other[0], 1), other[1])
    return [lessened, added] + fan[1:-1]


def rows_of(fan):
    """The cone itself."""
    return tuple([row for row, _ in fan])


def is_good(sight, fan):
    """Whether all rows have worths above 0."""
    return all([row_sign(sight, row) > 0 for row, _ in fan])


def good_fan(sight):
    """The first good one among the first cone and those that come of it by cuts; None if they are too many."""
    fan = first_fan(sight)
    cuts = 0
    while not is_good(sight, fan):
        if cuts == MOST_CUTS:
            return None
        fan = cut_fan(sight, fan)
        cuts += 1
    return fan
