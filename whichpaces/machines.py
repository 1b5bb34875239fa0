"""MACHINES: places and roads with lengths between them."""

from math import gcd

from whichpaces.basics import is_count, is_integer
from whichpaces.checks import check_many
from whichpaces.errors import InvalidMachine, InvalidPlace, NotTogether
from whichpaces.links import has_rounds, is_one_lot, lots_of

MOST_PLACES = 12
MOST_ROADS = 60
MOST_LENGTH = 400
MOST_WAY = 60
TOO_OFTEN = (10 ** 50) ** 8


def is_road(value, places):
    """Whether the value is a road between so many places."""
    if not isinstance(value, tuple) or len(value) != 4:
        return False
    one, other, length, many = value
    if not is_count(one) or one >= places or not is_count(other) or other >= places:
        return False
    if not is_integer(length) or not 1 <= length <= MOST_LENGTH:
        return False
    return is_integer(many) and 1 <= many < TOO_OFTEN


def are_roads(value, places):
    """Whether the value is the tuple of the roads of a machine with so many places."""
    if not isinstance(value, tuple) or len(value) > MOST_ROADS:
        return False
    if not all([is_road(road, places) for road in value]):
        return False
    # Rising, no two of them alike but for their many.
    return all([value[at - 1][:3] < value[at][:3] for at in range(1, len(value))])


def is_machine(value):
    """Whether the value is a MACHINE."""
    if not isinstance(value, tuple) or len(value) != 3:
        return False
    word, places, roads = value
    if not isinstance(word, str) or word != "machine":
        return False
    if not is_integer(places) or not 1 <= places <= MOST_PLACES:
        return False
    return are_roads(roads, places)


def check_machine(value):
    """Refuse what is no MACHINE."""
    if not is_machine(value):
        raise InvalidMachine(value)


def check_place(machine, value):
    """Refuse what is no place of the MACHINE."""
    if not is_count(value) or value >= machine[1]:
        raise InvalidPlace(value)


def ways_of(machine, one, many, ended):
    """How many ways of the length begin at the place, ended telling of how many the bare one counts at each."""
    _, places, roads = machine
    counts = [list(ended)]
    for length in range(1, many + 1):
        row = [0] * places
        for begin, end, taken, often in roads:
            if taken <= length:
                row[begin] += often * counts[length - taken][end]
        counts.append(row)
    return counts[many][one]


def ways(machine, one, many):
    """How many ways of the length many begin at the place one."""
    check_machine(machine)
    check_place(machine, one)
    check_many(many, 0, MOST_WAY)
    return ways_of(machine, one, many, [1] * machine[1])


def ways_between(machine, one, other, many):
    """How many ways of the length many lead from the place one to the place other."""
    check_machine(machine)
    check_place(machine, one)
    check_place(machine, other)
    check_many(many, 0, MOST_WAY)
    return ways_of(machine, one, many, [int(place == other) for place in range(machine[1])])


def links_of(machine):
    """For each place the places to which its roads lead."""
    links = [[] for _ in range(machine[1])]
    for one, other, _, _ in machine[2]:
        links[one].append(other)
    return links


def hangs_together(machine):
    """Whether a MACHINE hangs together."""
    return is_one_lot(links_of(machine))


def is_together(machine):
    """Whether the MACHINE hangs together."""
    check_machine(machine)
    return hangs_together(machine)


def check_together(machine):
    """Refuse a MACHINE that does not hang together."""
    if not hangs_together(machine):
        raise NotTogether()


def distances_from(roads, start):
    """The length of some way from the place to each place to which the roads lead, by place."""
    distances = {start: 0}
    waiting = [start]
    while waiting:
        place = waiting.pop()
        for one, other, length, _ in roads:
            if one == place and other not in distances:
                distances[other] = distances[place] + length
                waiting.append(other)
    return distances


def beat_within(roads):
    """The greatest number that divides the lengths of all rounds of the roads of one lot, 0 without roads."""
    if not roads:
        return 0
    distances = distances_from(roads, roads[0][0])
    common = 0
    for one, other, length, _ in roads:
        common = gcd(common, distances[one] + length - distances[other])
    return common


def beat(machine):
    """The greatest number that divides the lengths of all rounds of the MACHINE, 0 without rounds."""
    check_machine(machine)
    common = 0
    for lot in lots_of(links_of(machine)):
        common = gcd(common, beat_within([road for road in machine[2] if road[0] in lot and road[1] in lot]))
    return common


def is_hub(machine, place):
    """Whether each round of the MACHINE goes through the place."""
    links = links_of(machine)
    without = [[other for other in following if other != place] for following in links]
    without[place] = []
    return not has_rounds(without)


def hubs(machine):
    """The rising list of the hubs of the MACHINE."""
    check_machine(machine)
    return [place for place in range(machine[1]) if is_hub(machine, place)]
