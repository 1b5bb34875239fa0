"""Refusals of values that several files share."""

from whichpaces.basics import is_integer
from whichpaces.errors import InvalidInteger, InvalidMany


def check_integer(value):
    """Refuse what is no INTEGER."""
    if not is_integer(value):
        raise InvalidInteger(value)


def check_divisor(value):
    """Refuse what is no INTEGER, and 0."""
    if not is_integer(value) or value == 0:
        raise InvalidInteger(value)


def check_many(many, least, most):
    """Refuse what is no INTEGER from least to most."""
    if not is_integer(many) or not least <= many <= most:
        raise InvalidMany(many)
