"""Which NUMBERS are paces of machines with one hub, each answer with a paper."""

from whichpaces.dominance import beat_of, ring_for, standing_of
from whichpaces.hubs import beatless_hub, has_hub, hub_for, is_beatless, is_of_beatless_hub, is_of_hub
from whichpaces.judges import has_word, is_beats_of, is_ring_of
from whichpaces.multipliers import second_roots_of
from whichpaces.numbers import number_beside
from whichpaces.ratios import is_ratio, lowest, ratio_compared
from whichpaces.sturm import floor_of_root, root_bound, roots_above, roots_between, sturm_row
from whichpaces.told import check_number

FIRST_PLACES = 8


def parting(rows, position):
    """A RATIO above the real root of the position, and below the one of the position ahead."""
    places = FIRST_PLACES
    above = floor_of_root(rows, position, places) + 1
    while roots_above(rows, above, 1 << places) < position:
        places *= 2
        above = floor_of_root(rows, position, places) + 1
    return lowest(above, 1 << places)


def second_paper(number):
    """A paper of the word "second" of a NUMBER that has second roots."""
    _, least, position = number
    rows = sturm_row(least)
    if position:
        return "second", parting(rows, position), (root_bound(least), 1)
    return "second", (0, 1), parting(rows, 1)


def hubless_paper(number):
    """A paper that no hub, or no beatless one, has this pace."""
    if second_roots_of(number[1]):
        return second_paper(number)
    if standing_of(number) == "beyond":
        return "ring", ring_for(number)
    return "beats", beat_of(number[1])


def hub_paper(number):
    """A hub paper of the NUMBER."""
    check_number(number)
    if is_of_hub(number):
        return "hub", hub_for(number)
    return hubless_paper(number)


def beatless_hub_paper(number):
    """A beatless hub paper of the NUMBER."""
    check_number(number)
    if is_of_beatless_hub(number):
        return "hub", beatless_hub(number)
    return hubless_paper(number)


def is_second_of(number, value):
    """Whether the value is a paper of the word "second" of a NUMBER."""
    if not has_word(value, "second", 3) or not is_ratio(value[1]) or not is_ratio(value[2]):
        return False
    _, low, high = value
    if low[0] < 0 or ratio_compared(low, high) != -1:
        return False
    if number_beside(number, low) == 1 and number_beside(number, high) == -1:
        return False
    return roots_between(sturm_row(number[1]), low, high) > 0


def is_hub_paper(number, value):
    """Whether the value is a hub paper of the NUMBER."""
    check_number(number)
    if has_word(value, "hub", 2):
        return has_hub(number, value[1])
    return is_second_of(number, value) or is_ring_of(number, value)


def is_beatless_hub_paper(number, value):
    """Whether the value is a beatless hub paper of the NUMBER."""
    check_number(number)
    if has_word(value, "hub", 2):
        return has_hub(number, value[1]) and is_beatless(value[1])
    return is_second_of(number, value) or is_ring_of(number, value) or is_beats_of(number, value)
