"""NUMBERS: real roots above 0 of least polynomials."""

from whichpaces.told import is_told


def is_number(value):
    """Whether the value is a NUMBER."""
    return is_told(value)
