"""The degrees of a POLYNOMIAL's parts modulo a prime."""

from whichpaces.basics import is_integer
from whichpaces.errors import InvalidMany
from whichpaces.partdegrees import part_degrees
from whichpaces.polynomials import check_monic, check_polynomial

PRIMES = (2, 3, 5, 7, 11, 13)


def residue_degrees(polynomial, many):
    """The sorted list of the degrees of the parts modulo the prime many; None with a double one."""
    check_polynomial(polynomial)
    if not is_integer(many) or many not in PRIMES:
        raise InvalidMany(many)
    check_monic(polynomial)
    return part_degrees(polynomial, many)
