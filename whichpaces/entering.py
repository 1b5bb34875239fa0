"""Rows of a NUMBER by the rows of a cone, and when they come into it for good."""

from whichpaces.basics import is_count
from whichpaces.checks import check_many
from whichpaces.cones import check_cone, is_row_of
from whichpaces.dominance import standing_of
from whichpaces.entries import MOST_LENGTH, entry
from whichpaces.equations import inverse_of, led_by
from whichpaces.errors import InvalidPosition, InvalidRow, NotAbove, NotAlone, TooMany
from whichpaces.fields import led_once
from whichpaces.sights import row_sign, sight_of
from whichpaces.told import check_number


def check_row(number, row):
    """Refuse what is no row of the NUMBER."""
    if not is_row_of(number[1], row):
        raise InvalidRow(row)


def coordinates(number, cone, row):
    """The list of the row's coordinates by the cone."""
    check_number(number)
    check_cone(number, cone)
    check_row(number, row)
    return led_by(row, inverse_of(cone))


def led(number, row, many):
    """The row of the row's mix times the NUMBER to the power many."""
    check_number(number)
    check_row(number, row)
    check_many(many, 0, MOST_LENGTH)
    for _ in range(many):
        row = led_once(number[1], row)
    return row


def entering(number, cone, position):
    """The least many from 1 on at which the cone's row at the position enters the cone."""
    check_number(number)
    check_cone(number, cone)
    if not is_count(position) or position >= len(cone):
        raise InvalidPosition(position)
    if standing_of(number) != "alone":
        raise NotAlone()
    if row_sign(sight_of(number, 0), cone[position]) <= 0:
        raise NotAbove()
    found = entry(number[1], inverse_of(cone), cone[position], 1)
    if found is None:
        raise TooMany("lengths", MOST_LENGTH)
    return found[0]
