"""Judges of the papers that several kinds of papers share: rings and beats."""

from whichpaces.basics import is_integer
from whichpaces.circles import reaches
from whichpaces.dominance import beat_of
from whichpaces.numbers import number_beside
from whichpaces.ratios import is_ratio


def has_word(value, word, length):
    """Whether the value is a tuple of so many that begins with the word."""
    if not isinstance(value, tuple) or len(value) != length:
        return False
    return isinstance(value[0], str) and value[0] == word


def is_ring_of(number, value):
    """Whether the value is a paper of the word "ring" of a NUMBER."""
    if not has_word(value, "ring", 2) or not is_ratio(value[1]):
        return False
    _, ratio = value
    # The number itself lies within the ring: what reaches it is a conjugate.
    return number_beside(number, ratio) == -1 and reaches(number[1], ratio[0], ratio[1])


def is_beats_of(number, value):
    """Whether the value is a paper of the word "beats" of a NUMBER."""
    if not has_word(value, "beats", 2) or not is_integer(value[1]):
        return False
    _, many = value
    return many >= 2 and beat_of(number[1]) % many == 0
