"""Texts read as the values that they tell."""

from math import gcd

from whichpaces.coefficients import content
from whichpaces.errors import InvalidText
from whichpaces.hubs import MOST_ROUNDS
from whichpaces.machines import MOST_LENGTH, MOST_PLACES, MOST_ROADS
from whichpaces.sturm import roots_above, sturm_row
from whichpaces.tables import MOST_TIES
from whichpaces.texts import MOST_BEATS
from whichpaces.tokens import END_OF_ROW, Reading
from whichpaces.told import MOST_DEGREE, MOST_SIZE, is_told_least

# The greatest INTEGER of 400 digits.
GREATEST = (10 ** 50) ** 8 - 1


def number_in(reading):
    """The NUMBER that comes next."""
    reading.word("number")
    numbers = []
    while reading.seen() != "at":
        if len(numbers) > MOST_DEGREE:
            reading.refuse()
        numbers.append(reading.integer(-MOST_SIZE, MOST_SIZE))
    least = tuple(numbers)
    if not is_told_least(least):
        reading.refuse()
    reading.word("at")
    position = reading.integer(0, roots_above(sturm_row(least), 0, 1) - 1)
    reading.end_of_row()
    return "number", least, position


def road_in(reading, places, last):
    """The road that comes next, above the last one by its first three INTEGERS."""
    reading.word("road")
    one = reading.integer(last[0], places - 1)
    # What is greater ahead leaves free what comes behind.
    least_other = last[1] if one == last[0] else 0
    other = reading.integer(least_other, places - 1)
    least_length = last[2] + 1 if (one, other) == last[:2] else 1
    length = reading.integer(least_length, MOST_LENGTH)
    many = reading.integer(1, GREATEST)
    reading.end_of_row()
    return one, other, length, many


def machine_in(reading):
    """The MACHINE that comes next."""
    reading.word("machine")
    places = reading.integer(1, MOST_PLACES)
    reading.end_of_row()
    roads = []
    last = (0, 0, 0)
    while reading.seen() == "road" and len(roads) < MOST_ROADS:
        roads.append(road_in(reading, places, last))
        last = roads[-1][:3]
    return "machine", places, tuple(roads)


def table_in(reading):
    """The TABLE that comes next."""
    reading.word("table")
    places = reading.integer(1, MOST_PLACES)
    reading.end_of_row()
    rows = []
    for _ in range(places):
        reading.word("row")
        rows.append(tuple([reading.integer(0, MOST_TIES) for _ in range(places)]))
        reading.end_of_row()
    return tuple(rows)


def rounds_in(reading):
    """The ROUNDS that come next."""
    reading.word("rounds")
    reading.end_of_row()
    rounds = []
    last = 0
    while not rounds or (reading.seen() == "round" and len(rounds) < MOST_ROUNDS):
        reading.word("round")
        last = reading.integer(last + 1, MOST_LENGTH)
        rounds.append((last, reading.integer(1, GREATEST)))
        reading.end_of_row()
    return tuple(rounds)


def weight_in(reading, least, most):
    """The weight that comes next, with from least to most INTEGERS in its row."""
    reading.word("weight")
    under = reading.integer(1, GREATEST)
    row = []
    while len(row) < least or (len(row) < most and reading.seen() != END_OF_ROW):
        row.append(reading.integer(-GREATEST, GREATEST))
    # A row with a common divisor can't end, and it can't go on either.
    if gcd(content(row), under) != 1:
        reading.refuse()
    reading.end_of_row()
    return tuple(row), under


def machine_paper_in(reading):
    """The paper of the word "machine" whose rows come next."""
    machine = machine_in(reading)
    weights = [weight_in(reading, 1, MOST_DEGREE)]
    degree = len(weights[0][0])
    for _ in range(machine[1] - 1):
        weights.append(weight_in(reading, degree, degree))
    return "machine", machine, tuple(weights)


def paper_in(reading):
    """The paper that comes next."""
    reading.word("paper")
    word = reading.seen()
    if word not in ("machine", "hub", "ring", "beats", "second"):
        reading.refuse()
    reading.word(word)
    if word == "machine":
        reading.end_of_row()
        return machine_paper_in(reading)
    if word == "hub":
        reading.end_of_row()
        return "hub", rounds_in(reading)
    if word == "ring":
        paper = ("ring", reading.ratio((0, 1), False))
    elif word == "beats":
        paper = ("beats", reading.integer(2, MOST_BEATS))
    else:
        low = reading.ratio((0, 1), True)
        paper = ("second", low, reading.ratio(low, False))
    reading.end_of_row()
    return paper


def read_by(value_in, text):
    """The value that the text tells, by the function that takes its tokens."""
    if not isinstance(text, str):
        raise InvalidText(text)
    reading = Reading(text)
    value = value_in(reading)
    reading.end_of_text()
    return value


def read_number(text):
    """The NUMBER that the text tells."""
    return read_by(number_in, text)


def read_machine(text):
    """The MACHINE that the text tells."""
    return read_by(machine_in, text)


def read_table(text):
    """The TABLE that the text tells."""
    return read_by(table_in, text)


def read_rounds(text):
    """The ROUNDS that the text tells."""
    return read_by(rounds_in, text)


def read_paper(text):
    """The paper that the text tells."""
    return read_by(paper_in, text)
