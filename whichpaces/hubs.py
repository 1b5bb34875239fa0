"""ROUNDS: machines of one place, and which NUMBERS they have as paces."""

from whichpaces.basics import is_integer
from whichpaces.coefficients import content, multiplied
from whichpaces.dominance import beat_of, standing_of
from whichpaces.errors import InvalidRounds, NoHub, TooMany
from whichpaces.fields import filled, led_once
from whichpaces.machines import MOST_LENGTH, TOO_OFTEN
from whichpaces.multipliers import multiplier, second_roots_of
from whichpaces.told import check_number
from whichpaces.weights import is_even_at

MOST_ROUNDS = 60


def is_round(value):
    """Whether the value is a tuple (length, many) of ROUNDS."""
    if not isinstance(value, tuple) or len(value) != 2:
        return False
    length, many = value
    if not is_integer(length) or not 1 <= length <= MOST_LENGTH:
        return False
    return is_integer(many) and 1 <= many < TOO_OFTEN


def is_rounds(value):
    """Whether the value is ROUNDS."""
    if not isinstance(value, tuple) or not 1 <= len(value) <= MOST_ROUNDS:
        return False
    if not all([is_round(told) for told in value]):
        return False
    return all([value[at - 1][0] < value[at][0] for at in range(1, len(value))])


def check_rounds(value):
    """Refuse what is no ROUNDS."""
    if not is_rounds(value):
        raise InvalidRounds(value)


def machine_by_rounds(rounds):
    """The MACHINE of one place that ROUNDS stand for."""
    return "machine", 1, tuple([(0, 0, length, many) for length, many in rounds])


def hub_machine(rounds):
    """The MACHINE of one place that the ROUNDS stand for."""
    check_rounds(rounds)
    return machine_by_rounds(rounds)


def has_hub(number, value):
    """Whether the value is ROUNDS whose machine has this pace."""
    if not is_rounds(value):
        return False
    least = number[1]
    # One place alone has the weight 1.
    return is_even_at(machine_by_rounds(value), 0, least, [filled(least, (1,))])


def is_hub_of(number, value):
    """Whether the value is ROUNDS whose machine has this pace."""
    check_number(number)
    return has_hub(number, value)


def rounds_by(row, length, factor):
    """The rounds that a power of a NUMBER, told by lesser powers, stands for, all lengths times the factor."""
    told = [((length - power) * factor, many) for power, many in enumerate(row) if many]
    return tuple(told[::-1])


def least_rounds(number, factor, beatless):
    """The rounds of the hub length, or of the beatless one, of a NUMBER that is alone, all lengths times the factor."""
    whole = number[1]
    for _ in range(multiplier(number)):
        whole = multiplied(whole, (1, 1))
    row = (0,) * (len(whole) - 2) + (1,)
    for length in range(len(whole) - 1, MOST_LENGTH // factor + 1):
        row = led_once(whole, row)
        if min(row) >= 0 and max(row) < TOO_OFTEN:
            rounds = rounds_by(row, length, factor)
            if not beatless or is_beatless(rounds):
                return rounds
    raise TooMany("lengths", MOST_LENGTH)


def is_beatless(rounds):
    """Whether no INTEGER above 1 divides all lengths of ROUNDS."""
    return content([length for length, _ in rounds]) == 1


def is_of_hub(number):
    """Whether some machine with a hub has the NUMBER as its pace."""
    return second_roots_of(number[1]) == 0 and standing_of(number) != "beyond"


def is_of_beatless_hub(number):
    """Whether some machine with a hub and the beat 1 has the NUMBER as its pace."""
    return second_roots_of(number[1]) == 0 and standing_of(number) == "alone"


def hub_for(number):
    """ROUNDS whose machine has this pace."""
    check_number(number)
    if not is_of_hub(number):
        raise NoHub()
    _, least, position = number
    factor = beat_of(least)
    # The number to the power of its common beat is alone.
    return least_rounds(("number", least[::factor], position), factor, False)


def beatless_hub(number):
    """ROUNDS whose machine has this pace and the beat 1."""
    check_number(number)
    if not is_of_beatless_hub(number):
        raise NoHub()
    return least_rounds(number, 1, True)
