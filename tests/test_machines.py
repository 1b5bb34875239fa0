"""MACHINES [7], [61] to [64]."""

import random
import unittest

from helpers import BAD_MACHINE, NO_MACHINES, bad_many, bad_place, check_call, check_state, check_wrong, divisor_of
from helpers import plain_rounds, plain_ways, some_machine, some_together

from whichpaces.errors import InvalidMachine, InvalidMany, InvalidPlace
from whichpaces.machines import beat, hubs, is_machine, is_together, ways, ways_between

GOLDEN = ("machine", 1, ((0, 0, 1, 1), (0, 0, 2, 1)))
SPLIT = ("machine", 3, ((0, 1, 1, 2), (0, 2, 2, 1), (1, 0, 3, 1), (2, 0, 2, 1)))
BARE = ("machine", 1, ())
# From the place 0 each place is reached, but none leads back; and the other way round.
AWAY = ("machine", 3, ((0, 1, 1, 1), (0, 2, 1, 1), (1, 2, 1, 1), (2, 1, 1, 1)))
BACK = ("machine", 3, ((1, 0, 1, 1), (1, 2, 1, 1), (2, 0, 1, 1), (2, 1, 1, 1)))
MOST = (10 ** 50) ** 8 - 1


def some(seed, many):
    """Machines of all kinds."""
    chance = random.Random(seed)
    found = [GOLDEN, SPLIT, BARE, AWAY, BACK, ("machine", 12, ())]
    for _ in range(many):
        found.append(some_machine(chance, chance.randint(1, 6), chance.randint(0, 9), chance.randint(1, 4)))
        found.append(some_together(chance, chance.randint(1, 6), chance.randint(0, 5), chance.randint(1, 4)))
    return found


def plain_reach(machine):
    """Which places lead to which by ways with at least one road: pairs."""
    pairs = set([(one, other) for one, other, _, _ in machine[2]])
    for middle in range(machine[1]):
        for one in range(machine[1]):
            for other in range(machine[1]):
                if (one, middle) in pairs and (middle, other) in pairs:
                    pairs.add((one, other))
    return pairs


class What(unittest.TestCase):
    def test_machines(self):
        for machine in some(61, 20) + [
            ("machine", 12, ((0, 11, 400, MOST), (11, 0, 1, 1))),
            ("machine", 1, tuple([(0, 0, length, 1) for length in range(1, 61)])),
            ("machine", 2, ((0, 0, 2, 1), (0, 1, 1, 1), (0, 1, 2, 1), (1, 0, 1, 5))),
        ]:
            check_call(self, is_machine, (machine,), True)

    def test_what_is_none(self):
        for value in NO_MACHINES:
            self.assertIs(is_machine(value), False, value)

    def test_just_beyond_the_bounds(self):
        for places, roads, told in [
            (1, ((0, 0, 400, 1),), True), (1, ((0, 0, 401, 1),), False), (1, ((0, 0, 1, MOST),), True),
            (1, ((0, 0, 1, MOST + 1),), False), (12, (), True), (13, (), False), (0, (), False),
            (2, ((1, 1, 1, 1),), True), (1, ((1, 0, 1, 1),), False), (1, ((0, 1, 1, 1),), False),
            (1, tuple([(0, 0, length, 1) for length in range(1, 61)]), True),
            (1, tuple([(0, 0, length, 1) for length in range(1, 62)]), False),
            (2, ((0, 0, 1, 9), (0, 0, 2, 1)), True), (2, ((0, 0, 1, 1), (0, 0, 1, 9)), False),
        ]:
            check_call(self, is_machine, (("machine", places, roads),), told)


class Ways(unittest.TestCase):
    def test_counted_one_by_one(self):
        for machine in some(62, 15):
            for place in range(min(machine[1], 6)):
                for many in range(7):
                    counts = plain_ways(machine, place, many)
                    check_call(self, ways, (machine, place, many), sum(counts))
                    for other, count in enumerate(counts):
                        check_call(self, ways_between, (machine, place, other, many), count)

    def test_the_bare_way(self):
        for machine in some(63, 4):
            last = machine[1] - 1
            check_call(self, ways, (machine, last, 0), 1)
            check_call(self, ways_between, (machine, last, last, 0), 1)
            if last:
                check_call(self, ways_between, (machine, 0, last, 0), 0)

    def test_of_the_greatest_length(self):
        row = [1, 1]
        for _ in range(60):
            row.append(row[-1] + row[-2])
        check_call(self, ways, (GOLDEN, 0, 60), row[60])
        check_call(self, ways_between, (GOLDEN, 0, 0, 60), row[60])
        check_call(self, ways, (("machine", 1, ((0, 0, 1, 10 ** 6),)), 0, 60), 10 ** 360)
        check_call(self, ways, (("machine", 1, ((0, 0, 61, 5),)), 0, 60), 0)
        check_call(self, ways, (("machine", 1, ((0, 0, 60, 5),)), 0, 60), 5)
        check_call(self, ways_between, (SPLIT, 1, 2, 60), 0)
        check_call(self, ways_between, (SPLIT, 1, 2, 57), 3 ** 13)

    def test_places_without_roads(self):
        machine = ("machine", 2, ((0, 1, 2, 3),))
        check_call(self, ways, (machine, 1, 0), 1)
        check_call(self, ways, (machine, 1, 5), 0)
        check_call(self, ways, (machine, 0, 2), 3)
        check_call(self, ways, (machine, 0, 1), 0)
        check_call(self, ways, (machine, 0, 3), 0)
        check_call(self, ways_between, (machine, 0, 0, 2), 0)


class Together(unittest.TestCase):
    def test_against_all_pairs(self):
        seen = []
        for machine in some(64, 80):
            pairs = plain_reach(machine)
            check_call(self, is_together, (machine,), len(pairs) == machine[1] ** 2)
            seen.append(is_together(machine))
        self.assertIn(True, seen)
        self.assertIn(False, seen)

    def test_only_one_way_round(self):
        for machine in [AWAY, BACK, BARE, ("machine", 2, ((0, 0, 1, 1), (1, 1, 1, 1))),
                        ("machine", 2, ((0, 0, 1, 1), (0, 1, 1, 1))), ("machine", 2, ((0, 1, 1, 1), (1, 1, 1, 1))),
                        ("machine", 12, tuple([(at, at + 1, 1, 1) for at in range(11)]))]:
            check_call(self, is_together, (machine,), False)
        ring = tuple([(at, at + 1, 1, 1) for at in range(11)]) + ((11, 0, 1, 1),)
        check_call(self, is_together, (("machine", 12, ring),), True)
        check_call(self, is_together, (("machine", 1, ((0, 0, 7, 1),)),), True)


class Beats(unittest.TestCase):
    def test_against_rounds_told_plainly(self):
        # All rounds are put together of those in which no place comes twice.
        seen = []
        for machine in some(65, 120):
            told = divisor_of([length for _, length, _ in plain_rounds(machine)])
            check_call(self, beat, (machine,), told)
            seen.append((told, is_together(machine)))
        for told in [0, 1, 2]:
            self.assertIn((told, False), seen)
        for told in [1, 2, 3]:
            self.assertIn((told, True), seen)

    def test_of_lots_that_do_not_hang_together(self):
        four = ((0, 1, 2, 1), (1, 0, 2, 1))
        six = ((2, 3, 5, 1), (3, 2, 1, 1))
        check_call(self, beat, (("machine", 4, four + six),), 2)
        # What leads from one round to another is no round.
        check_call(self, beat, (("machine", 4, ((0, 1, 2, 1), (1, 0, 2, 1), (1, 2, 1, 1)) + six),), 2)
        check_call(self, beat, (("machine", 3, ((0, 1, 1, 1), (1, 2, 1, 1), (2, 2, 7, 1))),), 7)
        check_call(self, beat, (("machine", 2, ((0, 0, 400, 1), (1, 1, 150, 1))),), 50)

    def test_of_great_lengths(self):
        check_call(self, beat, (("machine", 1, ((0, 0, 399, 1), (0, 0, 400, 1))),), 1)
        check_call(self, beat, (("machine", 2, ((0, 1, 400, 1), (1, 0, 400, 1))),), 800)
        for machine in [BARE, ("machine", 12, ()), ("machine", 3, ((0, 1, 1, 1), (0, 2, 1, 1), (1, 2, 1, 1)))]:
            check_call(self, beat, (machine,), 0)


class Hubs(unittest.TestCase):
    def test_against_rounds_told_plainly(self):
        for machine in some(66, 120):
            rounds = plain_rounds(machine)
            told = [place for place in range(machine[1]) if all([place in way for way, _, _ in rounds])]
            check_call(self, hubs, (machine,), told)

    def test_known_ones(self):
        check_call(self, hubs, (("machine", 3, ((0, 1, 1, 1), (0, 2, 1, 1), (1, 2, 1, 1))),), [0, 1, 2])
        check_call(self, hubs, (("machine", 12, ()),), list(range(12)))
        check_call(self, hubs, (("machine", 2, ((0, 0, 1, 1), (1, 1, 1, 1))),), [])
        check_call(self, hubs, (("machine", 2, ((0, 0, 1, 1), (0, 1, 1, 1), (1, 0, 1, 1), (1, 1, 1, 1))),), [])
        check_call(self, hubs, (("machine", 4, ((0, 1, 1, 1), (1, 0, 1, 1), (2, 3, 1, 1), (3, 2, 1, 1))),), [])
        check_call(self, hubs, (("machine", 3, ((0, 1, 1, 1), (1, 2, 1, 1), (2, 0, 1, 1))),), [0, 1, 2])
        check_call(self, hubs, (("machine", 3, ((0, 1, 1, 1), (1, 0, 1, 1), (1, 2, 1, 1), (2, 1, 1, 1))),), [1])
        check_call(self, hubs, (("machine", 2, ((1, 1, 1, 1),)),), [1])


class Wrong(unittest.TestCase):
    def test_wrong_values(self):
        check_wrong(self, ways, (SPLIT, 2, 5), [BAD_MACHINE, bad_place(3), bad_many(60)])
        check_wrong(self, ways_between, (SPLIT, 2, 1, 5), [BAD_MACHINE, bad_place(3), bad_place(3), bad_many(60)])
        for function in [is_together, beat, hubs]:
            check_wrong(self, function, (SPLIT,), [BAD_MACHINE])

    def test_the_first_wrong_parameter_decides(self):
        check_state(self, InvalidMachine, ways, ("machine", 1, ((0, 0, 0, 1),)), 1, 61)
        check_state(self, InvalidPlace, ways, GOLDEN, 1, 61)
        check_state(self, InvalidMany, ways, GOLDEN, 0, 61)
        check_state(self, InvalidPlace, ways_between, GOLDEN, 0, 1, 61)


if __name__ == "__main__":
    unittest.main()
