"""Tables, machines and rounds built of others, and the lots of tables."""

from whichpaces.basics import is_count
from whichpaces.checks import check_many
from whichpaces.equations import rows_times
from whichpaces.errors import InvalidPosition, TooMany
from whichpaces.hubs import MOST_ROUNDS, check_rounds
from whichpaces.links import lots_of
from whichpaces.machines import MOST_LENGTH, MOST_PLACES, TOO_OFTEN, check_machine
from whichpaces.tables import MOST_TIES, check_table, table_links

MOST_TIES_IN_A_ROW = 6
MOST_TIMES = 12
MOST_FIGURES = 400


def check_places(table, other):
    """Refuse two TABLES of which too great a one would be built."""
    if len(table) * len(other) > MOST_PLACES:
        raise TooMany("places", MOST_PLACES)


def table_by(rows):
    """The rows as a TABLE, if none of their numbers is too great."""
    if max([max(row) for row in rows]) > MOST_TIES:
        raise TooMany("size", MOST_TIES)
    return tuple([tuple(row) for row in rows])


def pairs_of(table, other):
    """The pairs of a place of each, in the sequence of the places built of them."""
    return [(place, place_there) for place in range(len(table)) for place_there in range(len(other))]


def side_by_side(table, other):
    """The TABLE of two that go on at once."""
    check_table(table)
    check_table(other)
    check_places(table, other)
    pairs = pairs_of(table, other)
    return table_by([[table[one][end] * other[two][end_two] for end, end_two in pairs] for one, two in pairs])


def ties_in_turn(table, other, begin, end):
    """How many ties lead from a pair of places to another one, if just one of both TABLES goes on."""
    here = table[begin[0]][end[0]] if begin[1] == end[1] else 0
    there = other[begin[1]][end[1]] if begin[0] == end[0] else 0
    return here + there


def in_turn(table, other):
    """The TABLE of two of which one goes on at a time."""
    check_table(table)
    check_table(other)
    check_places(table, other)
    pairs = pairs_of(table, other)
    return table_by([[ties_in_turn(table, other, begin, end) for end in pairs] for begin in pairs])


def many_ties(table, many):
    """The TABLE of the ways of so many roads."""
    check_table(table)
    check_many(many, 1, MOST_TIES_IN_A_ROW)
    rows = table
    for _ in range(many - 1):
        rows = rows_times(rows, table)
    return table_by(rows)


def turned_about(machine):
    """The MACHINE with each road led the other way."""
    check_machine(machine)
    _, places, roads = machine
    return "machine", places, tuple(sorted([(other, one, length, many) for one, other, length, many in roads]))


def lengthened(machine, many):
    """The MACHINE with each length so many times."""
    check_machine(machine)
    check_many(many, 1, MOST_TIMES)
    _, places, roads = machine
    longer = [(one, other, length * many, often) for one, other, length, often in roads]
    if any([road[2] > MOST_LENGTH for road in longer]):
        raise TooMany("length", MOST_LENGTH)
    return "machine", places, tuple(longer)


def hubs_joined(rounds, other):
    """The ROUNDS of both lots of rounds on one hub."""
    check_rounds(rounds)
    check_rounds(other)
    found = {}
    for length, many in rounds + other:
        found[length] = found.get(length, 0) + many
    if len(found) > MOST_ROUNDS:
        raise TooMany("rounds", MOST_ROUNDS)
    if any([many >= TOO_OFTEN for many in list(found.values())]):
        raise TooMany("figures", MOST_FIGURES)
    return tuple([(length, found[length]) for length in sorted(found)])


def lots(table):
    """The rising list of the lots of the TABLE, each a rising list of places."""
    check_table(table)
    return lots_of(table_links(table))


def lot_alone(table, position):
    """The TABLE of the lot that has this position in the list of the lots."""
    check_table(table)
    found = lots_of(table_links(table))
    if not is_count(position) or position >= len(found):
        raise InvalidPosition(position)
    lot = found[position]
    return tuple([tuple([table[one][other] for other in lot]) for one in lot])
