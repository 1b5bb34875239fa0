"""MACHINES made for a NUMBER, by a good cone of it and when its rows enter."""

from whichpaces.coefficients import content, spread
from whichpaces.cones import good_cone
from whichpaces.dominance import beat_of, standing_of
from whichpaces.entries import MOST_LENGTH, entry
from whichpaces.equations import inverse_of
from whichpaces.errors import NoMachine, TooMany
from whichpaces.machines import TOO_OFTEN
from whichpaces.told import check_number

MOST_FIGURES = 400


def entry_of(least, inverse, row, rest):
    """The row's entry into the cone with this inverse, at a length without a common divisor with the rest."""
    found = entry(least, inverse, row, rest)
    if found is None:
        raise TooMany("lengths", MOST_LENGTH)
    return found


def machine_by(entries, factor):
    """The machine whose places are rows that enter so, all lengths times the factor."""
    roads = []
    for place, (length, told) in enumerate(entries):
        if length * factor > MOST_LENGTH:
            raise TooMany("lengths", MOST_LENGTH)
        if max(told) >= TOO_OFTEN:
            raise TooMany("figures", MOST_FIGURES)
        roads += [(place, other, length * factor, many) for other, many in enumerate(told)]
    return "machine", len(entries), tuple(roads)


def cone_weights(cone, factor):
    """The rows of the cone of a number's power as mixes of the number: they are weights of its machine."""
    degree = len(cone) * factor
    mixes = []
    for row in cone:
        wide = spread(row, factor)
        mixes.append((wide + (0,) * (degree - len(wide)), 1))
    return tuple(mixes)


def made_for(number):
    """A machine that hangs together and has a NUMBER that is not "beyond" as its pace, and its weights."""
    _, least, position = number
    factor = beat_of(least)
    # The number to the power of its common beat is alone.
    power = ("number", least[::factor], position)
    cone = good_cone(power)
    inverse = inverse_of(cone)
    entries = [entry_of(power[1], inverse, row, 1) for row in cone]
    return machine_by(entries, factor), cone_weights(cone, factor)


def beatless_made_for(number):
    """A machine with the beat 1 that has a NUMBER that is alone as its pace, and its weights."""
    cone = good_cone(number)
    inverse = inverse_of(cone)
    others = [entry_of(number[1], inverse, row, 1) for row in cone[1:]]
    # The first row alone is led on, as far as it takes to leave no common divisor.
    first = entry_of(number[1], inverse, cone[0], content([length for length, _ in others]))
    return machine_by([first] + others, 1), cone_weights(cone, 1)


def machine_for(number):
    """A machine that hangs together and has the NUMBER as its pace."""
    check_number(number)
    if standing_of(number) == "beyond":
        raise NoMachine()
    machine, _ = made_for(number)
    return machine


def beatless_machine(number):
    """A machine that hangs together, has the NUMBER as its pace, and the beat 1."""
    check_number(number)
    if standing_of(number) != "alone":
        raise NoMachine()
    machine, _ = beatless_made_for(number)
    return machine
