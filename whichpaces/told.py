"""What a NUMBER is: told here, since several files look at it."""

from whichpaces.basics import is_count
from whichpaces.errors import InvalidNumber
from whichpaces.factors import is_least_row
from whichpaces.polynomials import is_polynomial
from whichpaces.sturm import roots_above, sturm_row

MOST_DEGREE = 6
MOST_SIZE = 9999


def is_told_least(value):
    """Whether the value is a least polynomial of degree 1 to 6 with small INTEGERS."""
    if not is_polynomial(value) or not 2 <= len(value) <= MOST_DEGREE + 1:
        return False
    if value[-1] != 1 or max([abs(number) for number in value]) > MOST_SIZE:
        return False
    return is_least_row(value)


def is_told(value):
    """Whether the value is a NUMBER."""
    if not isinstance(value, tuple) or len(value) != 3:
        return False
    word, least, position = value
    if not isinstance(word, str) or word != "number":
        return False
    if not is_told_least(least) or not is_count(position):
        return False
    # As many real roots above it as the position tells, and itself above 0.
    return position < roots_above(sturm_row(least), 0, 1)


def check_number(value):
    """Refuse what is no NUMBER."""
    if not is_told(value):
        raise InvalidNumber(value)
