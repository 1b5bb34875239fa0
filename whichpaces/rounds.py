"""Round polynomials of MACHINES."""

from whichpaces.coefficients import trimmed
from whichpaces.errors import TooMany
from whichpaces.machines import check_machine
from whichpaces.series import determinant

MOST_LENGTH = 12


def greatest_lengths(machine):
    """The sum, over all places, of the greatest length of a road from it."""
    greatest = [0] * machine[1]
    for one, _, length, _ in machine[2]:
        greatest[one] = max(greatest[one], length)
    return sum(greatest)


def less_roads(machine, top):
    """The table of 1 less the MACHINE's sums of many times t ** length, up to the power top."""
    _, places, roads = machine
    rows = [[[0] * (top + 1) for _ in range(places)] for _ in range(places)]
    for place in range(places):
        rows[place][place][0] = 1
    for one, other, length, many in roads:
        rows[one][other][length] -= many
    return rows


def round_polynomial(machine):
    """The round polynomial of the MACHINE, from the power 0 on."""
    check_machine(machine)
    top = greatest_lengths(machine)
    if top > MOST_LENGTH:
        raise TooMany("length", MOST_LENGTH)
    # Each row has powers up to its greatest length alone, so the determinant has none above the top.
    return trimmed(determinant(less_roads(machine, top)))
