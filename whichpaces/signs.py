"""Changes of signs in rows of INTEGERS."""

from whichpaces.coefficients import sign_of
from whichpaces.polynomials import check_polynomial


def changes(row):
    """How many changes of signs a row has: noughts between are passed over."""
    many = 0
    last = 0
    for number in row:
        sign = sign_of(number)
        if sign and sign == -last:
            many += 1
        if sign:
            last = sign
    return many


def sign_changes(polynomial):
    """How many changes of signs the INTEGERS of the POLYNOMIAL have."""
    check_polynomial(polynomial)
    return changes(polynomial)
