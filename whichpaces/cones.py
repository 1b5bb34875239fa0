"""CONES of a NUMBER: rows of integers that hold its direction."""

from whichpaces.equations import inverse_of
from whichpaces.errors import InvalidCone, TooMany
from whichpaces.fans import MOST_CUTS, cut_fan, direction_rows, first_fan, good_fan, parts_by, rows_of
from whichpaces.mixes import are_integers
from whichpaces.sights import row_sign, sight_of
from whichpaces.told import check_number

# Parts become small as a cone is cut: so many places more show most of their signs at once.
MORE_PLACES = 384


def direction(number):
    """The list of the mixes of the NUMBER's direction."""
    check_number(number)
    return [(row, 1) for row in direction_rows(number[1])]


def is_row_of(least, value):
    """Whether the value is a row of a number with this least polynomial."""
    return isinstance(value, tuple) and are_integers(value, len(least) - 1)


def has_form_of_cone(least, value):
    """Whether the value is a tuple of as many rows as the degree tells."""
    if not isinstance(value, tuple) or len(value) != len(least) - 1:
        return False
    return all([is_row_of(least, row) for row in value])


def is_cone_of(number, value):
    """Whether the value is a cone of a NUMBER."""
    if not has_form_of_cone(number[1], value):
        return False
    inverse = inverse_of(value)
    if inverse is None:
        return False
    sight = sight_of(number, 0)
    return all([row_sign(sight, part) > 0 for part in parts_by(number[1], inverse)])


def is_cone(number, value):
    """Whether the value is a cone of the NUMBER."""
    check_number(number)
    return is_cone_of(number, value)


def check_cone(number, value):
    """Refuse what is no cone of the NUMBER."""
    if not is_cone_of(number, value):
        raise InvalidCone(value)


def cone_parts(number, cone):
    """The list of the parts of the rows, mixes."""
    check_number(number)
    check_cone(number, cone)
    return [(part, 1) for part in parts_by(number[1], inverse_of(cone))]


def first_cone(number):
    """The first cone of the NUMBER."""
    check_number(number)
    return rows_of(first_fan(sight_of(number, 0)))


def cut_cone(number, cone):
    """The next cone."""
    check_number(number)
    check_cone(number, cone)
    if len(cone) == 1:
        return cone
    parts = parts_by(number[1], inverse_of(cone))
    return rows_of(cut_fan(sight_of(number, 0), list(zip(cone, parts))))


def rows_above(number, cone):
    """The rising list of the positions of the rows with worths above 0."""
    check_number(number)
    check_cone(number, cone)
    sight = sight_of(number, 0)
    return [place for place, row in enumerate(cone) if row_sign(sight, row) > 0]


def good_cone(number):
    """The first good cone of the NUMBER by cuts."""
    check_number(number)
    fan = good_fan(sight_of(number, MORE_PLACES))
    if fan is None:
        raise TooMany("cuts", MOST_CUTS)
    return rows_of(fan)
