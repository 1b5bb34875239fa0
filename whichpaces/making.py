"""MACHINES made for a NUMBER, by a good cone of it and when its rows enter."""

from whichpaces.coefficients import content
from whichpaces.cones import good_cone
from whichpaces.dominance import beat_of, standing_of
from whichpaces.entries import MOST_LENGTH, entry
from whichpaces.equations import inverse_of
from whichpaces.errors import NoMachine, TooMany
from whichpaces.machines import TOO_OFTEN
from whichpaces.told import check_number

MOST_FIGURES = 400


def entry_of(least, inverse, row, rest):
    """The row's entry into the cone with this inverse, at a length without a common divisor with the rest."""
    found = entry(least, inverse, row, rest)
    if found is None:
        raise TooMany("lengths", MOST_LENGTH)
    return found


def machine_by(entries, factor):
    """The machine whose places are rows that enter so, all lengths times the factor."""
    roads = []
    for place, (length, told) in enumerate(entries):
        if length * factor > MOST_LENGTH:
            raise TooMany("lengths", MOST_LENGTH)
        if max(told) >= TOO_OFTEN:
            raise TooMany("figures", MOST_FIGURES)
        roads += [(place, other, length * factor, many) for other, many in enumerate(told)]
    return "machine", len(entries), tuple(roads)


def machine_for(number):
    """A machine that hangs together and has the NUMBER as its pace."""
    check_number(number)
    if standing_of(number) == "beyond":
        raise NoMachine()
    _, least, position = number
    factor = beat_of(least)
    # The number to the power of its common beat is alone.
    power = ("number", least[::factor], position)
    cone = good_cone(power)
    inverse = inverse_of(cone)
    return machine_by([entry_of(power[1], inverse, row, 1) for row in cone], factor)


def beatless_machine(number):
    """A machine that hangs together, has the NUMBER as its pace, and the beat 1."""
    check_number(number)
    if standing_of(number) != "alone":
        raise NoMachine()
    cone = good_cone(number)
    inverse = inverse_of(cone)
    others = [entry_of(number[1], inverse, row, 1) for row in cone[1:]]
    # The first row alone is led on, as far as it takes to leave no common divisor.
    first = entry_of(number[1], inverse, cone[0], content([length for length, _ in others]))
    return machine_by([first] + others, 1)
