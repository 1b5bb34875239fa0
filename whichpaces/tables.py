"""TABLES: how many roads of the length 1 lead from place to place."""

from whichpaces.basics import is_count
from whichpaces.errors import InvalidTable, TooMany
from whichpaces.machines import MOST_PLACES, MOST_ROADS, check_machine

MOST_TIES = 1000000


def is_table_row(value, places):
    """Whether the value is a tuple of so many COUNTS that are not too great."""
    if not isinstance(value, tuple) or len(value) != places:
        return False
    return all([is_count(number) and number <= MOST_TIES for number in value])


def is_table(value):
    """Whether the value is a TABLE."""
    if not isinstance(value, tuple) or not 1 <= len(value) <= MOST_PLACES:
        return False
    return all([is_table_row(row, len(value)) for row in value])


def check_table(value):
    """Refuse what is no TABLE."""
    if not is_table(value):
        raise InvalidTable(value)


def table_links(table):
    """For each place of a TABLE the places to which it leads."""
    return [[other for other, many in enumerate(row) if many] for row in table]


def check_roads(machine):
    """Refuse a MACHINE whose table would be too great."""
    if machine[1] + sum([road[2] - 1 for road in machine[2]]) > MOST_PLACES:
        raise TooMany("places", MOST_PLACES)
    if any([road[3] > MOST_TIES for road in machine[2]]):
        raise TooMany("many", MOST_TIES)


def table_of(machine):
    """The TABLE of the MACHINE: its places, then new ones along each road."""
    check_machine(machine)
    check_roads(machine)
    _, places, roads = machine
    total = places + sum([road[2] - 1 for road in roads])
    table = [[0] * total for _ in range(total)]
    new = places
    for one, other, length, many in roads:
        # The new places of a road stand one behind the other.
        stops = [one] + list(range(new, new + length - 1)) + [other]
        new += length - 1
        table[stops[0]][stops[1]] = many
        for at in range(1, length):
            table[stops[at]][stops[at + 1]] = 1
    return tuple([tuple(row) for row in table])


def machine_of(table):
    """The MACHINE of the TABLE: a road of the length 1 for each number above 0."""
    check_table(table)
    roads = []
    for place, row in enumerate(table):
        roads += [(place, other, 1, many) for other, many in enumerate(row) if many]
    if len(roads) > MOST_ROADS:
        raise TooMany("roads", MOST_ROADS)
    return "machine", len(table), tuple(roads)
