"""TABLES [7], [65]."""

import random
import unittest

from helpers import BAD_MACHINE, BAD_TABLE, NO_TABLES, check_call, check_state, check_wrong, machine_with, some_machine
from helpers import some_together

from whichpaces.errors import TooMany
from whichpaces.machines import beat, is_machine, is_together, ways_between
from whichpaces.tables import is_table, machine_of, table_of


def some_table(chance, places, most=3):
    """A table with so many places."""
    return tuple([tuple([max(0, chance.randint(-2, most)) for _ in range(places)]) for _ in range(places)])


def small_machines(seed, many):
    """Machines whose tables have at most 12 places."""
    chance = random.Random(seed)
    found = []
    while len(found) < many:
        make = chance.choice([some_machine, some_together])
        machine = make(chance, chance.randint(1, 5), chance.randint(0, 6), chance.randint(1, 4))
        if machine[1] + sum([length - 1 for _, _, length, _ in machine[2]]) <= 12:
            found.append(machine)
    return found


class What(unittest.TestCase):
    def test_tables(self):
        chance = random.Random(65)
        for places in range(1, 13):
            check_call(self, is_table, (some_table(chance, places),), True)
        for table in [((0,),), ((10 ** 6,),), ((0,) * 12,) * 12, ((10 ** 6,) * 12,) * 12]:
            check_call(self, is_table, (table,), True)

    def test_what_is_none(self):
        for value in NO_TABLES:
            self.assertIs(is_table(value), False, value)


class OfMachines(unittest.TestCase):
    def test_new_places_road_by_road(self):
        # The places 2 and 3 stand along the first road, 4 along the third one, 5 along the last one.
        machine = ("machine", 2, ((0, 0, 3, 7), (0, 1, 1, 2), (0, 1, 2, 3), (1, 0, 2, 5), (1, 1, 1, 4)))
        table = (
            (0, 2, 7, 0, 3, 0),
            (0, 4, 0, 0, 0, 5),
            (0, 0, 0, 1, 0, 0),
            (1, 0, 0, 0, 0, 0),
            (0, 1, 0, 0, 0, 0),
            (1, 0, 0, 0, 0, 0),
        )
        check_call(self, table_of, (machine,), table)

    def test_small_ones(self):
        check_call(self, table_of, (("machine", 1, ()),), ((0,),))
        check_call(self, table_of, (("machine", 2, ()),), ((0, 0), (0, 0)))
        check_call(self, table_of, (("machine", 1, ((0, 0, 1, 5),)),), ((5,),))
        check_call(self, table_of, (("machine", 1, ((0, 0, 1, 1), (0, 0, 2, 1), (0, 0, 3, 4))),),
                   ((1, 1, 4, 0), (1, 0, 0, 0), (0, 0, 0, 1), (1, 0, 0, 0)))

    def test_ways_stay(self):
        for machine in small_machines(66, 40):
            table = table_of(machine)
            check_call(self, is_table, (table,), True)
            again = machine_of(table)
            for one in range(machine[1]):
                for other in range(machine[1]):
                    for many in [0, 1, 2, 3, 7, 20]:
                        self.assertEqual(ways_between(machine, one, other, many), ways_between(again, one, other, many))
            self.assertEqual(is_together(machine), is_together(again))
            self.assertEqual(beat(machine), beat(again))
            check_call(self, table_of, (machine,), table)

    def test_how_many_places(self):
        for places, length in [(1, 12), (12, 1), (6, 7)]:
            table = table_of(("machine", places, ((0, places - 1, length, 3),)))
            self.assertEqual(len(table), 12)
            found = check_state(self, TooMany, table_of, ("machine", places, ((0, places - 1, length + 1, 3),)))
            self.assertEqual((found.what, found.limit), ("places", 12))
        found = check_state(self, TooMany, table_of, ("machine", 11, ((0, 0, 2, 3), (1, 1, 2, 3))))
        self.assertEqual((found.what, found.limit), ("places", 12))
        found = check_state(self, TooMany, table_of, ("machine", 1, ((0, 0, 400, 3),)))
        self.assertEqual((found.what, found.limit), ("places", 12))

    def test_how_many_ties(self):
        check_call(self, table_of, (("machine", 1, ((0, 0, 1, 10 ** 6), (0, 0, 2, 10 ** 6))),),
                   ((10 ** 6, 10 ** 6), (1, 0)))
        for roads in [((0, 0, 1, 10 ** 6 + 1),), ((0, 0, 1, 1), (0, 0, 2, 10 ** 6 + 1)), ((0, 0, 12, 10 ** 400 - 1),)]:
            found = check_state(self, TooMany, table_of, ("machine", 1, roads))
            self.assertEqual((found.what, found.limit), ("many", 1000000))

    def test_places_come_ahead_of_the_many(self):
        found = check_state(self, TooMany, table_of, ("machine", 1, ((0, 0, 13, 10 ** 6 + 1),)))
        self.assertEqual((found.what, found.limit), ("places", 12))
        found = check_state(self, TooMany, table_of, ("machine", 1, ((0, 0, 1, 10 ** 6 + 1), (0, 0, 13, 1))))
        self.assertEqual((found.what, found.limit), ("places", 12))


class OfTables(unittest.TestCase):
    def test_each_number_is_a_road(self):
        chance = random.Random(67)
        for places in [1, 2, 3, 5, 7, 12]:
            for _ in range(8):
                table = some_table(chance, places, 2)
                roads = {(one, other, 1): many for one, row in enumerate(table) for other, many in enumerate(row)}
                roads = {road: many for road, many in roads.items() if many}
                if len(roads) <= 60:
                    told = machine_with(places, roads)
                    check_call(self, machine_of, (table,), told)
                    check_call(self, is_machine, (told,), True)

    def test_the_table_of_the_machine_of_a_table(self):
        chance = random.Random(68)
        for _ in range(60):
            table = some_table(chance, chance.randint(1, 7), chance.choice([1, 3, 10 ** 6]))
            check_call(self, table_of, (machine_of(table),), table)

    def test_how_many_roads(self):
        full = ((1,) * 12,) * 5 + ((0,) * 12,) * 7
        self.assertEqual(len(machine_of(full)[2]), 60)
        self.assertEqual(table_of(machine_of(full)), full)
        more = full[:-1] + ((0,) * 11 + (1,),)
        found = check_state(self, TooMany, machine_of, more)
        self.assertEqual((found.what, found.limit), ("roads", 60))
        found = check_state(self, TooMany, machine_of, ((10 ** 6,) * 12,) * 12)
        self.assertEqual((found.what, found.limit), ("roads", 60))
        self.assertEqual(len(machine_of(((2,) * 7,) * 7)[2]), 49)


class Wrong(unittest.TestCase):
    def test_wrong_values(self):
        check_wrong(self, table_of, (("machine", 1, ()),), [BAD_MACHINE])
        check_wrong(self, machine_of, (((1,),),), [BAD_TABLE])


if __name__ == "__main__":
    unittest.main()
