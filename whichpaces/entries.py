"""At which lengths a row, led by more and more, has coordinates above 0 alone."""

from math import gcd

from whichpaces.equations import led_by
from whichpaces.fields import led_once

MOST_LENGTH = 400


def entry(least, inverse, row, rest):
    """The tuple (length, coordinates) at which the row enters the cone with this inverse; None if it is too late.

    The least length from 1 on at which all coordinates are above 0, and which
    has no divisor above 1 in common with the rest (0 is divided by all).
    """
    for length in range(1, MOST_LENGTH + 1):
        row = led_once(least, row)
        told = led_by(row, inverse)
        if min(told) > 0 and gcd(length, rest) == 1:
            return length, told
    return None
