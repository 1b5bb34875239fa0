"""Which NUMBERS are paces of machines, each answer with a paper."""

from whichpaces.dominance import beat_of, ring_for, standing_of
from whichpaces.judges import has_word, is_beats_of, is_ring_of
from whichpaces.machines import beat, hangs_together, is_machine
from whichpaces.making import beatless_made_for, made_for
from whichpaces.told import check_number
from whichpaces.weights import are_weights


def is_pace(number):
    """Whether some machine that hangs together has this pace."""
    check_number(number)
    return standing_of(number) != "beyond"


def is_beatless_pace(number):
    """Whether some machine that hangs together and has the beat 1 has this pace."""
    check_number(number)
    return standing_of(number) == "alone"


def paper_of(number):
    """A paper of the NUMBER."""
    check_number(number)
    if standing_of(number) == "beyond":
        return "ring", ring_for(number)
    machine, weights = made_for(number)
    return "machine", machine, weights


def beatless_paper(number):
    """A beatless paper of the NUMBER."""
    check_number(number)
    told = standing_of(number)
    if told == "beyond":
        return "ring", ring_for(number)
    if told == "beats":
        return "beats", beat_of(number[1])
    machine, weights = beatless_made_for(number)
    return "machine", machine, weights


def is_machine_of(number, value):
    """Whether the value is a paper of the word "machine" of a NUMBER."""
    if not has_word(value, "machine", 3) or not is_machine(value[1]):
        return False
    _, machine, weights = value
    return hangs_together(machine) and are_weights(machine, number, weights)


def is_paper(number, value):
    """Whether the value is a paper of the NUMBER."""
    check_number(number)
    return is_machine_of(number, value) or is_ring_of(number, value)


def is_beatless_paper(number, value):
    """Whether the value is a beatless paper of the NUMBER."""
    check_number(number)
    if is_machine_of(number, value):
        return beat(value[1]) == 1
    return is_ring_of(number, value) or is_beats_of(number, value)
