"""Numbers for the tests of papers: of each standing, with and without second roots, and drawn ones."""

import random

from whichpaces.numbers import is_number, number_floor

ALONE = [("number", least, 0) for least in [
    (-1, 1), (-5, 1), (-9999, 1), (-1, -1, 1), (1, -3, 1), (2549, -101, 1), (-9998, -1, 1), (-1, -1, 0, 1), (-1, 1, -2, 1),
    (-9998, -1, 0, 0, 0, 0, 1), (1, -1, 0, 0, -3, 1), (-1, -30, -27, 12, -6, -1, 1), (1, -1, -1, -1, 1), (-4083, 767, -48, 1),
]]
BEATS = [("number", least, 0) for least in [
    (-2, 0, 1), (-9999, 0, 1), (-2, 0, 0, 1), (-2, 0, 0, 0, 1), (-1, 0, -1, 0, 1), (-2, 0, 0, 0, 0, 1),
    (-2, 0, 0, 0, 0, 0, 1), (-1, 0, -3, 0, 0, 0, 1), (-1, 0, 0, -3, 0, 0, 1), (2, 0, -4, 0, 1), (-1, 0, -9, 0, -6, 0, 1),
]]
BEYOND = [("number", least, position) for least, position in [
    ((2, -4, 1), 1), ((1, -3, 1), 1), ((-10, 6, 1), 0), ((-1, 1, 1), 0), ((-2, 1, 2, 1), 0), ((-9998, 1, 1), 0),
    ((-9998, 1, 0, 0, 0, 0, 1), 0), ((-2, 280, -9800, 0, 0, 0, 1), 1), ((1, 0, -9, 0, 6, 0, 1), 0),
    ((2, 0, -4, 0, 1), 1), ((1, 0, -10, 0, 1), 1), ((-1, 0, 3, 0, 1), 0), ((-2, 0, 0, 8, 0, 0, 1), 0),
    ((1, 0, 0, -9, 0, 0, 1), 1),
]]


def some(seed, many, sizes=(1, 2, 5, 40, 9999)):
    """Numbers of all degrees, of all standings."""
    chance = random.Random(seed)
    found = []
    while len(found) < many:
        size = chance.choice(sizes)
        step = chance.choice([1, 1, 1, 2, 3])
        degree = chance.randint(1, 6)
        row = [chance.randint(-size, size) if at % step == 0 else 0 for at in range(degree)] + [1]
        number = ("number", tuple(row), chance.choice([0, 0, 0, 1, 2]))
        if is_number(number):
            found.append(number)
    return found


def near(number, places=300):
    """The number times 2 ** places, at most 1 less."""
    return number_floor(number, places)


def changed(value, path, new):
    """The value of tuples with what stands at the path of positions replaced."""
    if not path:
        return new
    at = path[0]
    return value[:at] + (changed(value[at], path[1:], new),) + value[at + 1:]


def lists_within(value):
    """The values of tuples with one of these tuples made a list."""
    if not isinstance(value, tuple):
        return []
    found = [list(value)]
    for at, item in enumerate(value):
        found += [value[:at] + (more,) + value[at + 1:] for more in lists_within(item)]
    return found


def trues_within(value):
    """The values of tuples with one 1 made True, one 0 made False."""
    if isinstance(value, tuple):
        found = []
        for at, item in enumerate(value):
            found += [value[:at] + (more,) + value[at + 1:] for more in trues_within(item)]
        return found
    if value == 0 or value == 1:
        return [bool(value)]
    return []
