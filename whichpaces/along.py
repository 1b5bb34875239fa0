"""Frames that go along with two TABLES, and frames that do not fall behind."""

from whichpaces.basics import is_integer
from whichpaces.columns import column_rows, powers_near, turned, worth_near
from whichpaces.coefficients import content
from whichpaces.equations import rows_times
from whichpaces.fields import row_product
from whichpaces.sturm import sturm_row
from whichpaces.tops import check_pair, own_polynomial, top_of, tops_compared

FIRST_PLACES = 1


def are_integers_above(row, many, low):
    """Whether the value is a tuple of so many INTEGERS, all above low."""
    if not isinstance(row, tuple) or len(row) != many:
        return False
    return all([is_integer(number) and number > low for number in row])


def is_frame_above(table, other, value, low):
    """Whether the value is a frame of both TABLES with INTEGERS above low alone."""
    if not isinstance(value, tuple) or len(value) != len(table):
        return False
    return all([are_integers_above(row, len(other), low) for row in value])


def goes_along(table, other, frame):
    """Whether a frame with INTEGERS above 0 goes along with both."""
    return rows_times(table, frame) == rows_times(frame, other)


def stays_with(table, other, frame):
    """Whether a frame without INTEGERS below 0 does not fall behind."""
    if not any([any(row) for row in frame]):
        return False
    led = [number for row in rows_times(table, frame) for number in row]
    led_by = [number for row in rows_times(frame, other) for number in row]
    return all([number <= more for number, more in zip(led, led_by)])


def lowered(frame):
    """The frame divided by what divides all of it."""
    common = content([number for row in frame for number in row])
    return tuple([tuple([number // common for number in row]) for row in frame])


def frame_along(table, other, least):
    """A frame that goes along with two TABLES with one pace, the greatest real root of the least polynomial."""
    here = column_rows(table, own_polynomial(table))
    there = column_rows(turned(other), own_polynomial(other))
    # Each product is a sum of powers of the pace: their INTEGERS, power by power, make frames that are led alike.
    products = [[row_product(least, row, line) for line in there] for row in here]
    rows = sturm_row(least)
    places = FIRST_PLACES
    frame = ((0,),)
    while min([min(row) for row in frame]) <= 0:
        powers = powers_near(rows, len(least) - 1, places)
        frame = [[worth_near(product, powers) for product in line] for line in products]
        places *= 2
    return lowered(frame)


def frame_of_lesser(table, other, least, least_there):
    """A frame that does not fall behind, where the first pace is less than the other one."""
    here = column_rows(table, own_polynomial(table))
    there = column_rows(turned(other), own_polynomial(other))
    rows = sturm_row(least)
    rows_there = sturm_row(least_there)
    places = FIRST_PLACES
    frame = ()
    # The real numbers themselves would make each INTEGER less than the other one: near enough ones do, too.
    while not frame or min([min(row) for row in frame]) <= 0 or not stays_with(table, other, frame):
        powers = powers_near(rows, len(table), places)
        powers_there = powers_near(rows_there, len(other), places)
        ahead = [worth_near(row, powers) for row in here]
        behind = [worth_near(row, powers_there) for row in there]
        frame = [[number * more for more in behind] for number in ahead]
        places *= 2
    return lowered(frame)


def along(table, other):
    """A frame that goes along with both TABLES, None if there is none."""
    check_pair(table, other)
    least = top_of(table)
    if least != top_of(other):
        return None
    return frame_along(table, other, least)


def is_along(table, other, value):
    """Whether the value is a frame that goes along with both TABLES."""
    check_pair(table, other)
    return is_frame_above(table, other, value, 0) and goes_along(table, other, value)


def not_behind(table, other):
    """A frame that does not fall behind, None if there is none."""
    check_pair(table, other)
    here = top_of(table)
    there = top_of(other)
    told = tops_compared(here, there)
    if told == 1:
        return None
    if told == 0:
        return frame_along(table, other, here)
    return frame_of_lesser(table, other, here, there)


def is_not_behind(table, other, value):
    """Whether the value is a frame that does not fall behind."""
    check_pair(table, other)
    return is_frame_above(table, other, value, -1) and stays_with(table, other, value)
