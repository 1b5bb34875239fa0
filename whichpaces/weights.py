"""WEIGHTS of a MACHINE for a NUMBER: found by taking out places, and judged."""

from math import lcm

from whichpaces.fields import filled, led_once
from whichpaces.lightening import lightened
from whichpaces.machines import check_machine, check_together
from whichpaces.mixes import is_mix_of
from whichpaces.sights import row_sign, sight_of
from whichpaces.takingout import equation_of, leads_of, weights_by
from whichpaces.told import check_number


def weights(machine, number):
    """The WEIGHTS of the MACHINE for the NUMBER, None if there are none."""
    check_machine(machine)
    check_number(number)
    check_together(machine)
    least = number[1]
    table = [equation_of(machine, place, least) for place in range(machine[1])]
    leads = leads_of(sight_of(number, 0), table)
    if leads is None:
        return None
    return tuple(lightened(least, weights_by(least, leads)))


def are_mixes_above(number, value):
    """Whether the tuple has MIXES of the NUMBER alone, all above 0."""
    if not all([is_mix_of(number[1], mix) for mix in value]):
        return False
    sight = sight_of(number, 0)
    return all([row_sign(sight, row) > 0 for row, _ in value])


def is_even_at(machine, place, least, rows):
    """Whether the weights, rows alone, keep the equation of the place."""
    own = [road for road in machine[2] if road[0] == place]
    total = filled(least, ())
    weight = rows[place]
    for reached in range(1, max([road[2] for road in own]) + 1):
        # What was added at a length is led on by each unit of length behind it.
        total = led_once(least, total)
        weight = led_once(least, weight)
        for _, other, length, many in own:
            if length == reached:
                total = tuple([number + many * factor for number, factor in zip(total, rows[other])])
    return total == weight


def are_even(machine, least, value):
    """Whether the weights keep the equations of all places."""
    common = 1
    for _, under in value:
        common = lcm(common, under)
    rows = [tuple([number * (common // under) for number in row]) for row, under in value]
    return all([is_even_at(machine, place, least, rows) for place in range(machine[1])])


def are_weights(machine, number, value):
    """Whether the value is WEIGHTS of a MACHINE that hangs together for a NUMBER."""
    if not isinstance(value, tuple) or len(value) != machine[1]:
        return False
    return are_mixes_above(number, value) and are_even(machine, number[1], value)


def is_weights(machine, number, value):
    """Whether the value is WEIGHTS of the MACHINE for the NUMBER."""
    check_machine(machine)
    check_number(number)
    check_together(machine)
    return are_weights(machine, number, value)
