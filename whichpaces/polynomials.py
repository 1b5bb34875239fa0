"""POLYNOMIALS: tuples of at most 13 INTEGERS, from the power 0 on."""

from whichpaces.basics import is_integer
from whichpaces.coefficients import added, bare, common_part, divided, multiplied
from whichpaces.coefficients import negated, single, slope, worth_times
from whichpaces.errors import InvalidPolynomial, NotMonic, TooMany
from whichpaces.ratios import check_ratio, lowest

MOST_NUMBERS = 13
MOST_DEGREE = 12
MOST_SIZE = 1000000


def is_polynomial(value):
    """Whether the value is a POLYNOMIAL."""
    if not isinstance(value, tuple) or len(value) > MOST_NUMBERS:
        return False
    for number in value:
        if not is_integer(number) or abs(number) > MOST_SIZE:
            return False
    return len(value) == 0 or value[-1] != 0


def check_polynomial(value):
    """Refuse what is no POLYNOMIAL."""
    if not is_polynomial(value):
        raise InvalidPolynomial(value)


def check_monic(polynomial):
    """Refuse a POLYNOMIAL that is not monic, or of a degree below 1."""
    if len(polynomial) < 2 or polynomial[-1] != 1:
        raise NotMonic()


def poly_plus(polynomial, other):
    """The sum of two POLYNOMIALS."""
    check_polynomial(polynomial)
    check_polynomial(other)
    return added(polynomial, other)


def poly_minus(polynomial, other):
    """The first POLYNOMIAL less the other one."""
    check_polynomial(polynomial)
    check_polynomial(other)
    return added(polynomial, negated(other))


def poly_times(polynomial, other):
    """The product of two POLYNOMIALS."""
    check_polynomial(polynomial)
    check_polynomial(other)
    product = multiplied(polynomial, other)
    if len(product) > MOST_NUMBERS:
        raise TooMany("degree", MOST_DEGREE)
    return product


def poly_worth(polynomial, ratio):
    """The value of the POLYNOMIAL at the RATIO."""
    check_polynomial(polynomial)
    check_ratio(ratio)
    scale = 1
    for _ in range(len(polynomial) - 1):
        scale *= ratio[1]
    return lowest(worth_times(polynomial, ratio[0], ratio[1]), scale)


def poly_slope(polynomial):
    """The slope of the POLYNOMIAL."""
    check_polynomial(polynomial)
    return slope(polynomial)


def poly_divided(polynomial, other):
    """The quotient and the rest of the POLYNOMIAL by a monic one."""
    check_polynomial(polynomial)
    check_polynomial(other)
    check_monic(other)
    return divided(polynomial, other)


def poly_bare(polynomial):
    """The bare one of the POLYNOMIAL."""
    check_polynomial(polynomial)
    return bare(polynomial)


def poly_common(polynomial, other):
    """The common part of two POLYNOMIALS."""
    check_polynomial(polynomial)
    check_polynomial(other)
    return common_part(polynomial, other)


def poly_single(polynomial):
    """The single one of the POLYNOMIAL."""
    check_polynomial(polynomial)
    return single(polynomial)
