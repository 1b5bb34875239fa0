"""The least parts of a POLYNOMIAL."""

from whichpaces.factors import is_least_row, least_parts
from whichpaces.polynomials import check_monic, check_polynomial


def parts_of(polynomial):
    """The sorted list of the tuples (least, many): a least part, and how often it stands."""
    check_polynomial(polynomial)
    check_monic(polynomial)
    return least_parts(polynomial)


def is_least(polynomial):
    """Whether the POLYNOMIAL is least."""
    check_polynomial(polynomial)
    if len(polynomial) < 2 or polynomial[-1] != 1:
        return False
    return is_least_row(polynomial)
