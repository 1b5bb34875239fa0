"""Tables, machines and rounds built of others [121] to [127]."""

import random
import unittest
from math import lcm

from helpers import BAD_MACHINE, BAD_ROUNDS, BAD_TABLE, bad_many, bad_position, check_call, check_state, check_wrong
from helpers import divisor_of, plain_ways, some_machine, some_together
from sometables import plain_pace, product, some_table, table_beat, together

from whichpaces.builds import hubs_joined, in_turn, lengthened, lot_alone, lots, many_ties, side_by_side, turned_about
from whichpaces.errors import TooMany
from whichpaces.hubs import hub_machine, is_rounds
from whichpaces.machines import beat, hubs, is_machine, is_together, ways, ways_between
from whichpaces.mixes import mix_over, mix_times
from whichpaces.numbers import mix_floor, number_compared
from whichpaces.numbersums import number_power, number_product, number_root, number_sum
from whichpaces.paces import pace
from whichpaces.rounds import round_polynomial
from whichpaces.tables import is_table, machine_of, table_of
from whichpaces.weights import is_weights, weights

GOLDEN, TWO, RING = ((1, 1), (1, 0)), ((2,),), ((0, 1), (1, 0))
THREE = ((0, 1, 0), (0, 0, 1), (1, 0, 0))
TOO_OFTEN = (10 ** 50) ** 8


def drawn(chance, places, most):
    """A table, whether it hangs together or not."""
    return tuple([tuple([chance.choice([0, 1, most]) for _ in range(places)]) for _ in range(places)])


class TwoTables(unittest.TestCase):
    def check_one(self, one, other):
        """Both tables of two, place by place, and by their ways."""
        pairs = [(place, there) for place in range(len(one)) for there in range(len(other))]
        at_once = tuple([tuple([one[i][k] * other[j][l] for k, l in pairs]) for i, j in pairs])
        turns = tuple([tuple([(j == l) * one[i][k] + (i == k) * other[j][l] for k, l in pairs]) for i, j in pairs])
        check_call(self, side_by_side, (one, other), at_once)
        check_call(self, in_turn, (one, other), turns)
        self.assertIs(is_table(at_once) and is_table(turns), True)
        return at_once, turns

    def test_the_examples(self):
        self.assertEqual(self.check_one(GOLDEN, TWO), (((2, 2), (2, 0)), ((3, 1), (1, 2))))
        self.assertEqual(self.check_one(TWO, TWO), (((4,),), ((4,),)))
        self.assertEqual(self.check_one(((0,),), ((0,),)), (((0,),), ((0,),)))

    def test_drawn_ones(self):
        chance = random.Random(121)
        for _ in range(60):
            places = chance.randint(1, 12)
            self.check_one(drawn(chance, places, 7), drawn(chance, chance.randint(1, 12 // places), 7))

    def test_against_plain_counting_of_ways(self):
        chance = random.Random(122)
        for _ in range(12):
            one, other = some_table(chance, 2, 2), some_table(chance, chance.randint(1, 2), 2)
            at_once, turns = [("machine", len(table), machine_of(table)[2]) for table in self.check_one(one, other)]
            here, there = machine_of(one), machine_of(other)
            for length in range(4):
                for i in range(len(one)):
                    for j in range(len(other)):
                        first, second = plain_ways(here, i, length), plain_ways(there, j, length)
                        both = [number * more for number in first for more in second]
                        self.assertEqual(plain_ways(at_once, i * len(other) + j, length), both)
                        shared = [0] * len(both)
                        for part in range(length + 1):
                            ahead, behind = plain_ways(here, i, part), plain_ways(there, j, length - part)
                            mixed = [number * more for number in ahead for more in behind]
                            often = chosen(length, part)
                            shared = [number + often * more for number, more in zip(shared, mixed)]
                        self.assertEqual(plain_ways(turns, i * len(other) + j, length), shared)

    def test_places(self):
        for places, others in [(12, 1), (1, 12), (6, 2), (3, 4)]:
            self.check_one(((1,) * places,) * places, ((1,) * others,) * others)
        for places, others in [(12, 2), (2, 12), (7, 2), (4, 4), (12, 12)]:
            for function in [side_by_side, in_turn]:
                told = check_state(self, TooMany, function, ((10 ** 6,) * places,) * places, ((2,) * others,) * others)
                self.assertEqual((told.what, told.limit), ("places", 12))

    def test_size(self):
        check_call(self, side_by_side, (((1000,),), ((1000,),)), ((10 ** 6,),))
        check_call(self, side_by_side, (((10 ** 6, 0), (0, 1)), ((1,),)), ((10 ** 6, 0), (0, 1)))
        check_call(self, side_by_side, (((0,),), ((10 ** 6,),)), ((0,),))
        check_call(self, in_turn, (((999999,),), ((1,),)), ((10 ** 6,),))
        check_call(self, in_turn, (((0, 10 ** 6), (1, 0)), ((0,),)), ((0, 10 ** 6), (1, 0)))
        check_call(self, in_turn, (((0, 10 ** 6), (1, 0)), ((1,),)), ((1, 10 ** 6), (1, 1)))
        for function, one, other in [(side_by_side, ((1001,),), ((1000,),)), (side_by_side, ((1, 0), (0, 2)), ((1, 0), (0, 500001))),
                                     (in_turn, ((10 ** 6,),), ((1,),)), (in_turn, ((1, 0), (0, 0)), ((0, 1), (0, 10 ** 6)))]:
            for args in [(one, other), (other, one)]:
                told = check_state(self, TooMany, function, *args)
                self.assertEqual((told.what, told.limit), ("size", 1000000))

    def test_wrong_values(self):
        for function in [side_by_side, in_turn]:
            check_wrong(self, function, (GOLDEN, TWO), [BAD_TABLE, BAD_TABLE])


class ManyTies(unittest.TestCase):
    def test_against_plain_counting_of_ways(self):
        chance = random.Random(123)
        for _ in range(30):
            table = drawn(chance, chance.randint(1, 4), 2)
            machine = ("machine", len(table), machine_of(table)[2])
            for many in range(1, 5):
                told = tuple([tuple(plain_ways(machine, place, many)) for place in range(len(table))])
                check_call(self, many_ties, (table, many), told)
            for many in range(1, 7):
                told = tuple([tuple([ways_between(machine, one, other, many) for other in range(len(table))])
                              for one in range(len(table))])
                check_call(self, many_ties, (table, many), told)

    def test_edges(self):
        check_call(self, many_ties, (GOLDEN, 1), GOLDEN)
        check_call(self, many_ties, (GOLDEN, 3), ((3, 2), (2, 1)))
        check_call(self, many_ties, (((10,),), 6), ((10 ** 6,),))
        check_call(self, many_ties, (((0, 10 ** 6), (0, 0)), 2), ((0, 0), (0, 0)))
        check_call(self, many_ties, (((0, 10 ** 6), (1, 0)), 2), ((10 ** 6, 0), (0, 10 ** 6)))
        # On the way there is more than what comes of it.
        check_call(self, many_ties, (((0, 10 ** 6, 0, 0), (0, 0, 10 ** 6, 0), (0, 0, 0, 10 ** 6), (0, 0, 0, 0)), 4), ((0,) * 4,) * 4)
        for table, many in [(((11,),), 6), (((1001,),), 2), (((0, 10 ** 6), (1, 0)), 3), (((1, 10 ** 6), (0, 1)), 2)]:
            told = check_state(self, TooMany, many_ties, table, many)
            self.assertEqual((told.what, told.limit), ("size", 1000000))

    def test_wrong_values(self):
        check_wrong(self, many_ties, (((10 ** 6,),), 1), [BAD_TABLE, bad_many(6, 1)])


class Machines(unittest.TestCase):
    def test_turned_about(self):
        chance = random.Random(124)
        for at in range(60):
            make = some_machine if at % 2 else some_together
            machine = make(chance, chance.randint(1, 5), chance.randint(0, 9))
            told = turned_about(machine)
            check_call(self, turned_about, (machine,), told)
            self.assertIs(is_machine(told), True)
            self.assertEqual(sorted([(b, a, length, many) for a, b, length, many in told[2]]), list(machine[2]))
            self.assertEqual(turned_about(told), machine)
            self.assertEqual(is_together(told), is_together(machine))
            self.assertEqual(beat(told), beat(machine))
            self.assertEqual(hubs(told), hubs(machine))
            for length in range(5):
                for one in range(machine[1]):
                    for other in range(machine[1]):
                        self.assertEqual(ways_between(told, one, other, length), ways_between(machine, other, one, length))
            try:
                self.assertEqual(round_polynomial(told), round_polynomial(machine))
                if is_together(machine):
                    self.assertEqual(pace(told), pace(machine))
            except TooMany as wrong:
                self.assertIn(wrong.what, ["length", "degree", "size"])
        check_call(self, turned_about, (("machine", 2, ((0, 1, 1, 2), (1, 0, 3, 1))),), ("machine", 2, ((0, 1, 3, 1), (1, 0, 1, 2))))
        check_call(self, turned_about, (("machine", 12, ()),), ("machine", 12, ()))

    def test_lengthened(self):
        chance = random.Random(125)
        for _ in range(40):
            machine = some_together(chance, chance.randint(1, 3), chance.randint(0, 4), 2, 2)
            many = chance.randint(1, 4)
            told = lengthened(machine, many)
            check_call(self, lengthened, (machine, many), told)
            self.assertIs(is_machine(told), True)
            self.assertEqual([road[2] for road in told[2]], [road[2] * many for road in machine[2]])
            self.assertEqual((is_together(told), beat(told)), (True, many * beat(machine)))
            for length in range(13):
                counted = ways(machine, 0, length // many) if length % many == 0 else None
                if counted is not None:
                    self.assertEqual(ways_between(told, 0, 0, length), ways_between(machine, 0, 0, length // many))
                else:
                    self.assertEqual(ways_between(told, 0, 0, length), 0)
            try:
                spread = [0] * (many * (len(round_polynomial(machine)) - 1) + 1)
                spread[::many] = round_polynomial(machine)
                self.assertEqual(round_polynomial(told), tuple(spread))
                self.assertEqual(pace(told), number_root(pace(machine), many))
            except TooMany as wrong:
                self.assertIn(wrong.what, ["length", "degree", "size"])

    def test_lengths(self):
        for length, many in [(400, 1), (200, 2), (133, 3), (33, 12), (1, 12)]:
            check_call(self, lengthened, (("machine", 1, ((0, 0, length, 5),)), many), ("machine", 1, ((0, 0, length * many, 5),)))
        for length, many in [(201, 2), (134, 3), (34, 12), (400, 12), (400, 2)]:
            told = check_state(self, TooMany, lengthened, ("machine", 1, ((0, 0, 1, 1), (0, 0, length, 5))), many)
            self.assertEqual((told.what, told.limit), ("length", 400))
        check_call(self, lengthened, (("machine", 3, ()), 12), ("machine", 3, ()))

    def test_wrong_values(self):
        machine = ("machine", 1, ((0, 0, 400, 1),))
        check_wrong(self, turned_about, (machine,), [BAD_MACHINE])
        check_wrong(self, lengthened, (machine, 1), [BAD_MACHINE, bad_many(12, 1)])


class Rounds(unittest.TestCase):
    def test_joined(self):
        check_call(self, hubs_joined, (((1, 1), (2, 1)), ((2, 2),)), ((1, 1), (2, 3)))
        chance = random.Random(126)
        for _ in range(40):
            one, other = [tuple([(length, chance.randint(1, 5)) for length in sorted(chance.sample(range(1, 7), chance.randint(1, 4)))])
                          for _ in range(2)]
            told = hubs_joined(one, other)
            check_call(self, hubs_joined, (one, other), told)
            self.assertIs(is_rounds(told), True)
            self.assertEqual(dict(told), {length: dict(one).get(length, 0) + dict(other).get(length, 0)
                                          for length, _ in one + other})
            whole = hub_machine(told)
            self.assertEqual(beat(whole), divisor_of([beat(hub_machine(one)), beat(hub_machine(other))]))
            polynomials = [round_polynomial(hub_machine(rounds)) for rounds in [told, one, other]]
            summed = [0] * 8
            for row, sign in zip(polynomials, [1, -1, -1]):
                for power, number in enumerate(row):
                    summed[power] += sign * number
            self.assertEqual(summed, [-1] + [0] * 7)
            for part in [one, other]:
                self.assertEqual(number_compared(pace(whole), pace(hub_machine(part))), 1)

    def test_lengths(self):
        sixty = tuple([(length, 1) for length in range(1, 61)])
        check_call(self, hubs_joined, (sixty, ((60, 1),)), sixty[:-1] + ((60, 2),))
        check_call(self, hubs_joined, (sixty[:30], sixty[30:]), sixty)
        for one, other in [(sixty, ((61, 1),)), (((400, 1),), sixty), (sixty[:31], tuple([(length, 1) for length in range(32, 62)]))]:
            told = check_state(self, TooMany, hubs_joined, one, other)
            self.assertEqual((told.what, told.limit), ("rounds", 60))

    def test_figures(self):
        most = TOO_OFTEN - 1
        check_call(self, hubs_joined, (((1, most - 1),), ((1, 1),)), ((1, most),))
        check_call(self, hubs_joined, (((1, most),), ((2, most),)), ((1, most), (2, most)))
        for one, other in [(((1, most),), ((1, 1),)), (((1, 1), (2, 1)), ((1, 1), (2, most)))]:
            told = check_state(self, TooMany, hubs_joined, one, other)
            self.assertEqual((told.what, told.limit), ("figures", 400))
        many = tuple([(length, most) for length in range(1, 61)])
        self.assertEqual(check_state(self, TooMany, hubs_joined, many, ((60, 1), (61, 1))).what, "rounds")

    def test_wrong_values(self):
        check_wrong(self, hubs_joined, (((1, 1),), ((1, 1),)), [BAD_ROUNDS, BAD_ROUNDS])


class Lots(unittest.TestCase):
    def plain_lots(self, table):
        """The lots, by reaching along the roads."""
        def reach(place):
            found = []
            waiting = [place]
            while waiting:
                for other, many in enumerate(table[waiting.pop()]):
                    if many and other not in found:
                        found.append(other)
                        waiting.append(other)
            return found
        reached = [reach(place) for place in range(len(table))]
        told = [[other for other in range(len(table)) if other == place or (other in reached[place] and place in reached[other])]
                for place in range(len(table))]
        return sorted([lot for place, lot in enumerate(told) if lot[0] == place])

    def check_lots(self, table):
        """The lots of the table, each alone, and no position beyond."""
        told = self.plain_lots(table)
        check_call(self, lots, (table,), told)
        lots(table)[0].append("more")
        self.assertEqual(lots(table), told)
        self.assertEqual(sorted([place for lot in told for place in lot]), list(range(len(table))))
        for position, lot in enumerate(told):
            alone = tuple([tuple([table[one][other] for other in lot]) for one in lot])
            check_call(self, lot_alone, (table, position), alone)
            self.assertIs(is_table(alone), True)
            self.assertIs(together(alone), len(lot) > 1 or alone[0][0] > 0)
        self.assertIs(together(table), len(told) == 1 and max([max(row) for row in table]) > 0)
        return told

    def test_known_ones(self):
        for table, told in [(((1, 1), (0, 1)), [[0], [1]]), (RING, [[0, 1]]), (((0,),), [[0]]), (((5,),), [[0]]),
                            (((1, 0, 1), (0, 5, 0), (2, 0, 0)), [[0, 2], [1]]), (((0,) * 12,) * 12, [[at] for at in range(12)]),
                            (((0, 1, 0), (0, 0, 1), (0, 0, 0)), [[0], [1], [2]]), (((1,) * 12,) * 12, [list(range(12))])]:
            self.assertEqual(self.check_lots(table), told)
        self.assertEqual(self.check_lots(side_by_side(RING, RING)), [[0, 3], [1, 2]])

    def test_drawn_ones(self):
        chance = random.Random(127)
        seen = []
        for _ in range(150):
            places = chance.randint(1, 12)
            share = chance.choice([1, 2, 3, 4]) / (2 * places)
            table = tuple([tuple([chance.randint(1, 3) if chance.random() < share else 0 for _ in range(places)]) for _ in range(places)])
            seen.append(len(self.check_lots(table)))
        self.assertGreater(len(set(seen)), 6)

    def test_wrong_values(self):
        check_wrong(self, lots, (GOLDEN,), [BAD_TABLE])
        check_wrong(self, lot_alone, (GOLDEN, 0), [BAD_TABLE, bad_position(1)])
        check_wrong(self, lot_alone, (((1, 1), (0, 1)), 0), [BAD_TABLE, bad_position(2)])
        check_wrong(self, lot_alone, (((0,) * 12,) * 12, 11), [BAD_TABLE, bad_position(12)])


class Paces(unittest.TestCase):
    """What becomes of paces, beats, lots and weights [125], [127]."""

    def no_road_between(self, table):
        """No road leads from one lot to another one."""
        place_of = {place: at for at, lot in enumerate(lots(table)) for place in lot}
        return not [1 for one, row in enumerate(table) for other, many in enumerate(row) if many and place_of[one] != place_of[other]]

    def near(self, table, pace_told):
        """The pace of the table is nearly this one, times 2 ** 100."""
        self.assertLess(abs((plain_pace(table) >> 100) - pace_told), 2 ** 24)

    def tables(self, chance):
        """Tables with beats of 1 to 4, in pairs."""
        some = [GOLDEN, TWO, RING, THREE, ((0, 2), (3, 0)), ((0, 1, 1), (1, 0, 0), (1, 0, 0)), ((0, 1, 0, 0), (0, 0, 1, 0), (0, 0, 0, 1), (2, 0, 0, 0))]
        some += [some_table(chance, chance.randint(1, 3), 3) for _ in range(8)]
        return [(one, other) for one in some for other in some if len(one) * len(other) <= 12]

    def test_two_tables(self):
        for one, other in self.tables(random.Random(128)):
            beats = [table_beat(one), table_beat(other)]
            common = divisor_of(beats)
            x, y = plain_pace(one) >> 100, plain_pace(other) >> 100
            turns, at_once = in_turn(one, other), side_by_side(one, other)
            self.assertIs(together(turns), True)
            self.near(turns, x + y)
            self.assertEqual(table_beat(turns), common)
            told = lots(at_once)
            self.assertEqual(len(told), common)
            self.assertIs(self.no_road_between(at_once), True)
            self.assertIs(together(at_once), common == 1)
            for position in range(len(told)):
                alone = lot_alone(at_once, position)
                self.assertIs(together(alone), True)
                self.near(alone, x * y >> 100)
                self.assertEqual(table_beat(alone), lcm(*beats))

    def test_many_ties(self):
        for one in [GOLDEN, TWO, RING, THREE, ((0, 2), (3, 0)), ((0, 1, 0, 0), (0, 0, 1, 0), (0, 0, 0, 1), (2, 0, 0, 0))]:
            for many in range(1, 7):
                power = many_ties(one, many)
                beats = table_beat(one)
                common = divisor_of([many, beats])
                self.assertEqual(len(lots(power)), common)
                self.assertIs(self.no_road_between(power), True)
                for position in range(common):
                    alone = lot_alone(power, position)
                    self.assertIs(together(alone), True)
                    self.assertEqual(table_beat(alone), beats // common)
                    self.near(alone, (plain_pace(one) ** many) >> (200 * many - 100))

    def test_as_numbers(self):
        for one, other in [(GOLDEN, TWO), (GOLDEN, GOLDEN), (TWO, RING), (((1, 2), (1, 0)), GOLDEN), (((0, 2), (1, 0)), GOLDEN)]:
            x, y = pace(machine_of(one)), pace(machine_of(other))
            self.assertEqual(pace(machine_of(in_turn(one, other))), number_sum(x, y))
            self.assertEqual(pace(machine_of(side_by_side(one, other))), number_product(x, y))
            for many in range(1, 5):
                power = many_ties(one, many)
                if len(lots(power)) == 1:
                    self.assertEqual(pace(machine_of(power)), number_power(x, many))

    def test_weights(self):
        # The one pace is an INTEGER, so that its weights are RATIOS.
        for table in [GOLDEN, ((2, 1), (1, 1)), ((0, 2), (1, 0)), ((3, 1), (1, 1))]:
            number = pace(machine_of(table))
            own = weights(machine_of(table), number)
            for whole in [TWO, ((3,),), ((2, 1), (1, 2)), ((1, 2), (1, 0))]:
                there = [mix for mix in weights(machine_of(whole), pace(machine_of(whole)))]
                others = [(row[0] * there[0][1], under * there[0][0][0]) for row, under in there]
                wanted = [(mix, other) for mix in own for other in others]
                turned = [(mix, other) for other in others for mix in own]
                for build in [in_turn, side_by_side]:
                    self.check_weights(build(table, whole), number, wanted)
                    self.check_weights(build(whole, table), number, turned)

    def check_weights(self, table, number, wanted):
        """The weights of the table are in the proportions of mixes of the number, each times a RATIO."""
        if together(table):
            told = pace(machine_of(table))
            found = weights(machine_of(table), told)
            for mix, (own, other) in zip(found, wanted):
                self.check_proportion(told, mix, found[0], number, mix_over(number, own, wanted[0][0]), other)

    def check_proportion(self, told, mix, base, number, ratio_here, scaled):
        """The weight divided by the first one is the other mix times a whole number over another, by floors."""
        found = mix_floor(told, mix_over(told, mix, base), 150)
        wanted = mix_floor(number, ratio_here, 150) * scaled[0] // scaled[1]
        self.assertLess(abs(found - wanted), 2 ** 10)

    def test_weights_of_equal_numbers(self):
        # A table in turn with itself: weights are the products, mixes of the same number.
        for table in [GOLDEN, ((2, 1), (1, 1)), ((1, 2), (1, 0)), ((0, 2), (1, 1))]:
            number = pace(machine_of(table))
            own = weights(machine_of(table), number)
            products = tuple([mix_times(number, one, other) for one in own for other in own])
            for build in [in_turn, side_by_side]:
                whole = machine_of(build(table, table))
                told = pace(whole)
                if told[1] != number[1] and len(told[1]) == len(number[1]):
                    found = weights(whole, told)
                    for place, mix in enumerate(products):
                        self.check_proportion(told, found[place], found[0], number, mix_over(number, mix, products[0]), (1, 1))
                self.assertIs(is_weights(whole, told, weights(whole, told)), True)


class Tables(unittest.TestCase):
    def test_tables_of_machines_turned_about_and_lengthened(self):
        machine = ("machine", 2, ((0, 0, 1, 1), (0, 1, 2, 1), (1, 0, 1, 2)))
        self.assertIs(together(table_of(turned_about(machine))), True)
        self.assertEqual(plain_pace(table_of(turned_about(machine))), plain_pace(table_of(machine)))
        self.assertEqual(product(((1, 2), (3, 4)), ((0, 1), (1, 0))), ((2, 1), (4, 3)))


def chosen(many, part):
    """In how many ways so many can be parted in two with this part."""
    told = 1
    for step in range(part):
        told = told * (many - step) // (step + 1)
    return told


if __name__ == "__main__":
    unittest.main()
