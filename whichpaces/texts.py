"""Values written as texts, and what has the form of a paper."""

from math import gcd

from whichpaces.basics import is_integer
from whichpaces.coefficients import content
from whichpaces.errors import InvalidPaper
from whichpaces.hubs import check_rounds, is_rounds
from whichpaces.judges import has_word
from whichpaces.machines import check_machine, is_machine
from whichpaces.ratios import is_ratio, ratio_compared
from whichpaces.tables import check_table
from whichpaces.told import MOST_DEGREE, check_number

MOST_BEATS = 6


def is_weight(value, degree):
    """Whether the value is a tuple (row, under) with so many INTEGERS in the row, bare."""
    if not isinstance(value, tuple) or len(value) != 2:
        return False
    row, under = value
    if not isinstance(row, tuple) or len(row) != degree or not all([is_integer(number) for number in row]):
        return False
    return is_integer(under) and under >= 1 and gcd(content(row), under) == 1


def degree_of(value):
    """How many INTEGERS the row of a weight tells; 0 if the value can't be a weight."""
    if not isinstance(value, tuple) or len(value) != 2 or not isinstance(value[0], tuple):
        return 0
    return len(value[0])


def are_weights_by_form(value, places):
    """Whether the value is a tuple of so many weights, with as many INTEGERS in each row."""
    if not isinstance(value, tuple) or len(value) != places:
        return False
    degree = degree_of(value[0])
    if not 1 <= degree <= MOST_DEGREE:
        return False
    return all([is_weight(weight, degree) for weight in value])


def is_machine_form(value):
    """Whether the value has the form of a paper of the word "machine"."""
    if not has_word(value, "machine", 3) or not is_machine(value[1]):
        return False
    return are_weights_by_form(value[2], value[1][1])


def is_ring_form(value):
    """Whether the value has the form of a paper of the word "ring"."""
    return has_word(value, "ring", 2) and is_ratio(value[1]) and value[1][0] > 0


def is_beats_form(value):
    """Whether the value has the form of a paper of the word "beats"."""
    return has_word(value, "beats", 2) and is_integer(value[1]) and 2 <= value[1] <= MOST_BEATS


def is_hub_form(value):
    """Whether the value has the form of a paper of the word "hub"."""
    return has_word(value, "hub", 2) and is_rounds(value[1])


def is_second_form(value):
    """Whether the value has the form of a paper of the word "second"."""
    if not has_word(value, "second", 3) or not is_ratio(value[1]) or not is_ratio(value[2]):
        return False
    return value[1][0] >= 0 and ratio_compared(value[1], value[2]) == -1


def has_paper_form(value):
    """Whether the value has the form of a paper."""
    if is_machine_form(value) or is_ring_form(value) or is_beats_form(value):
        return True
    return is_hub_form(value) or is_second_form(value)


def row_text(word, numbers):
    """The row of a word and INTEGERS."""
    return " ".join([word] + [str(number) for number in numbers]) + "\n"


def ratio_text(ratio):
    """The RATIO as it is written."""
    number, under = ratio
    return str(number) if under == 1 else f"{number}/{under}"


def machine_rows(machine):
    """The rows of a MACHINE."""
    _, places, roads = machine
    return row_text("machine", [places]) + "".join([row_text("road", road) for road in roads])


def rounds_rows(rounds):
    """The rows of ROUNDS."""
    return "rounds\n" + "".join([row_text("round", told) for told in rounds])


def number_text(number):
    """The row of the NUMBER."""
    check_number(number)
    _, least, position = number
    return row_text("number", list(least) + ["at", position])


def machine_text(machine):
    """The rows of the MACHINE."""
    check_machine(machine)
    return machine_rows(machine)


def table_text(table):
    """The rows of the TABLE."""
    check_table(table)
    return row_text("table", [len(table)]) + "".join([row_text("row", row) for row in table])


def rounds_text(rounds):
    """The rows of the ROUNDS."""
    check_rounds(rounds)
    return rounds_rows(rounds)


def paper_text(paper):
    """The rows of the paper."""
    if not has_paper_form(paper):
        raise InvalidPaper(paper)
    word = paper[0]
    if word == "machine":
        weights = [row_text("weight", (under,) + row) for row, under in paper[2]]
        return "paper machine\n" + machine_rows(paper[1]) + "".join(weights)
    if word == "hub":
        return "paper hub\n" + rounds_rows(paper[1])
    if word == "beats":
        return row_text("paper beats", paper[1:])
    return f"paper {word} " + " ".join([ratio_text(ratio) for ratio in paper[1:]]) + "\n"
