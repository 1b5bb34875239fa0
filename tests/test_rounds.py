"""Round polynomials of MACHINES [66], [67]."""

import random
import unittest
from itertools import combinations

from helpers import BAD_MACHINE, check_call, check_state, check_wrong, greatest_lengths, plain_polynomial
from helpers import plain_rounds, some_machine, some_together

from whichpaces.errors import TooMany
from whichpaces.machines import hubs, ways_between
from whichpaces.rounds import round_polynomial
from whichpaces.tables import machine_of, table_of


def some(seed, many):
    """Machines whose round polynomials are told."""
    chance = random.Random(seed)
    found = [("machine", 2, ()), ("machine", 12, ()), ("machine", 3, ((0, 1, 4, 1), (0, 2, 1, 1), (1, 2, 7, 1)))]
    while len(found) < many:
        make = chance.choice([some_machine, some_together])
        machine = make(chance, chance.randint(1, 6), chance.randint(0, 9), chance.randint(1, 4), chance.choice([1, 9]))
        if greatest_lengths(machine) <= 12:
            found.append(machine)
    return found


class Rounds(unittest.TestCase):
    def test_against_lots_of_rounds(self):
        for machine in some(66, 150):
            check_call(self, round_polynomial, (machine,), plain_polynomial(machine))

    def test_that_of_the_document(self):
        golden = ("machine", 1, ((0, 0, 1, 1), (0, 0, 2, 1)))
        check_call(self, round_polynomial, (golden,), (1, -1, -1))
        check_call(self, table_of, (golden,), ((1, 1), (1, 0)))
        self.assertEqual([ways_between(golden, 0, 0, many) for many in range(5)], [1, 1, 2, 3, 5])

    def test_sums_with_ways_are_nought(self):
        for machine in some(67, 40):
            told = round_polynomial(machine)
            for one in range(machine[1]):
                for length in range(greatest_lengths(machine) + 1, greatest_lengths(machine) + 5):
                    counts = [ways_between(machine, one, 0, length - at) for at in range(min(len(told), length + 1))]
                    self.assertEqual(sum([factor * count for factor, count in zip(told, counts)]), 0)

    def test_of_hubs(self):
        for machine in some(68, 120):
            rounds = plain_rounds(machine)
            if rounds and hubs(machine):
                row = [1] + [0] * max([length for _, length, _ in rounds])
                for _, length, many in rounds:
                    row[length] -= many
                check_call(self, round_polynomial, (machine,), tuple(row))

    def test_of_machines_of_tables(self):
        chance = random.Random(69)
        for places in range(1, 5):
            for _ in range(12):
                table = tuple([tuple([chance.randint(0, 3) for _ in range(places)]) for _ in range(places)])
                told = round_polynomial(machine_of(table))
                row = [1]
                for size in range(1, places + 1):
                    row.append(sum([self.minor(table, chosen) for chosen in combinations(range(places), size)])
                               * (-1) ** size)
                while row[-1] == 0:
                    row.pop()
                self.assertEqual(told, tuple(row))
        check_call(self, round_polynomial, (machine_of(((2, 1), (1, 1))),), (1, -3, 1))
        check_call(self, round_polynomial, (machine_of(((1, 1), (1, 1))),), (1, -2))
        check_call(self, round_polynomial, (machine_of(((0, 1), (0, 0))),), (1,))

    def minor(self, table, chosen):
        """The determinant of the chosen rows and columns, told plainly."""
        if not chosen:
            return 1
        total = 0
        rest = [[table[one][other] for other in chosen] for one in chosen]
        for at in range(len(chosen)):
            part = [row[:at] + row[at + 1:] for row in rest[1:]]
            total += (-1) ** at * rest[0][at] * self.minor(part, tuple(range(len(part))))
        return total

    def test_the_length_twelve(self):
        check_call(self, round_polynomial, (("machine", 1, ((0, 0, 12, 5),)),), (1,) + (0,) * 11 + (-5,))
        check_call(self, round_polynomial, (("machine", 2, ((0, 1, 5, 1), (1, 0, 7, 1))),), (1,) + (0,) * 11 + (-1,))
        # Without a round the greatest lengths count, too.
        check_call(self, round_polynomial, (("machine", 3, ((0, 1, 5, 1), (1, 2, 7, 1))),), (1,))
        ring = tuple([(place, (place + 1) % 12, 1, 1) for place in range(12)])
        check_call(self, round_polynomial, (("machine", 12, ring),), (1,) + (0,) * 11 + (-1,))
        own = tuple([(place, place, 1, 1) for place in range(12)])
        check_call(self, round_polynomial, (("machine", 12, own),),
                   (1, -12, 66, -220, 495, -792, 924, -792, 495, -220, 66, -12, 1))

    def test_longer_ones(self):
        for machine in [
            ("machine", 1, ((0, 0, 13, 5),)), ("machine", 2, ((0, 1, 6, 1), (1, 0, 7, 1))),
            ("machine", 3, ((0, 1, 6, 1), (1, 2, 7, 1))), ("machine", 1, ((0, 0, 1, 1), (0, 0, 400, 1))),
            ("machine", 2, ((0, 0, 1, 1), (0, 1, 7, 1), (1, 0, 6, 1))),
        ]:
            found = check_state(self, TooMany, round_polynomial, machine)
            self.assertEqual((found.what, found.limit), ("length", 12))

    def test_great_manys(self):
        most = 10 ** 39
        check_call(self, round_polynomial, (("machine", 1, ((0, 0, 1, most), (0, 0, 3, 2))),), (1, -most, 0, -2))
        check_call(self, round_polynomial, (("machine", 2, ((0, 0, 1, most), (1, 1, 2, most))),),
                   (1, -most, -most, most * most))


class Wrong(unittest.TestCase):
    def test_wrong_values(self):
        check_wrong(self, round_polynomial, (("machine", 1, ()),), [BAD_MACHINE])


if __name__ == "__main__":
    unittest.main()
