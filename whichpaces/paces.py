"""The PACE of a MACHINE, told as a NUMBER."""

from whichpaces.coefficients import single
from whichpaces.errors import TooMany
from whichpaces.factors import factors_of
from whichpaces.machines import check_machine, check_together
from whichpaces.picking import number_at
from whichpaces.rounds import round_polynomial

MOST_SIZE = 10 ** 40


def pace(machine):
    """The pace of the MACHINE."""
    check_machine(machine)
    check_together(machine)
    told = round_polynomial(machine)
    if max([abs(number) for number in told]) > MOST_SIZE:
        raise TooMany("size", MOST_SIZE)
    whole = single(told[::-1])
    return number_at(whole, factors_of(whole), 0)
