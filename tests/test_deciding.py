"""Which NUMBERS are paces, and their papers [4], [91] to [95]."""

import unittest

from helpers import BAD_NUMBER, NO_MACHINES, NO_NUMBERS, NO_RATIOS, check_call, check_state, check_wrong, kinds_of
from somenumbers import ALONE, BEATS, BEYOND, changed, lists_within, some, trues_within

from whichpaces.deciding import beatless_paper, is_beatless_pace, is_beatless_paper, is_pace, is_paper, paper_of
from whichpaces.dominance import common_beat, ring_for, standing
from whichpaces.errors import TooMany
from whichpaces.machines import beat, is_machine, is_together
from whichpaces.making import beatless_machine, machine_for
from whichpaces.mixes import mix_made, mix_times
from whichpaces.numbers import number_beside, number_floor
from whichpaces.ratios import ratio_made, ratio_minus, ratio_plus
from whichpaces.rings import ring_count, size_floor
from whichpaces.weights import is_weights, weights

GREATER, LESSER = ("number", (1, -3, 1), 0), ("number", (1, -3, 1), 1)
GOLD, ROOT, LESS = ("number", (-1, -1, 1), 0), ("number", (-2, 0, 1), 0), ("number", (2, -4, 1), 1)
TIED = ("machine", 2, ((0, 0, 1, 2), (0, 1, 1, 1), (1, 0, 1, 1), (1, 1, 1, 1)))
TIED_PAPER = ("machine", TIED, (((-1, 1), 1), ((1, 0), 1)))
ODD = [
    None, True, False, 0, 3, "ring", b"ring", "machine", (), [], {}, object(), int, ("ring",), ("machine",), ("beats",),
    ("hub",), ("second",), (("ring",), (4, 1)), (None, (4, 1)), (b"ring", (4, 1)), ("", (4, 1)), ("Ring", (4, 1)),
    {"ring": (4, 1)}, "beats2", ("beats", 2, 2), ("ring", (4, 1), (4, 1)), ("machine", TIED), ("machine", (), ()),
    ("along", ((1,),)), ("between", (4, 1)), (("ring", (4, 1)),), ["ring", (4, 1)], ["beats", 2],
]


def plain_judge(number, value):
    """Whether a paper that is of the right form is one."""
    if value[0] == "machine":
        return is_together(value[1]) and is_weights(value[1], number, value[2])
    above = number_beside(number, value[1]) == -1
    return above and ring_count(number[1], value[1])[0] < len(number[1]) - 1


class Deciding(unittest.TestCase):
    def check_paper(self, number, paper, judge, judge_here):
        """The paper is one, by both judges, and stays so when it is asked for again."""
        check_call(self, judge, (number, paper), True)
        self.assertIs(judge_here(number, paper), True)
        self.assertEqual(kinds_of(paper)[0], "str")

    def check_number(self, number):
        """Just one of both sides is told, by papers that are right."""
        told = standing(number)
        check_call(self, is_pace, (number,), told != "beyond")
        check_call(self, is_beatless_pace, (number,), told == "alone")
        paper, beatless = paper_of(number), beatless_paper(number)
        check_call(self, paper_of, (number,), paper)
        check_call(self, beatless_paper, (number,), beatless)
        self.check_paper(number, paper, is_paper, plain_judge)
        self.assertEqual(paper[0], "ring" if told == "beyond" else "machine")
        if told == "beats":
            self.assertEqual(beatless[0], "beats")
            self.assertEqual(common_beat(number) % beatless[1], 0)
            self.assertIs(is_beatless_paper(number, beatless), True)
        else:
            self.check_paper(number, beatless, is_beatless_paper, plain_judge)
            self.assertEqual(beatless[0], "ring" if told == "beyond" else "machine")
        if told == "alone":
            self.assertEqual(beat(beatless[1]), 1)
        return paper, beatless

    def test_known_ones(self):
        for number in ALONE + BEATS + BEYOND:
            self.check_number(number)

    def test_of_all_degrees(self):
        seen = []
        for number in some(901, 150):
            seen.append((standing(number), len(number[1]) - 1))
            try:
                self.check_number(number)
            except TooMany as wrong:
                self.assertIn((wrong.what, wrong.limit), [("cuts", 400), ("lengths", 400), ("figures", 400)])
        for degree in range(2, 7):
            self.assertIn(("alone", degree), seen)
            self.assertIn(("beyond", degree), seen)
        self.assertIn(("alone", 1), seen)

    def test_with_a_common_beat_above_one(self):
        for number in BEATS:
            many = common_beat(number)
            self.assertEqual(standing(number), "beats")
            self.assertEqual(beatless_paper(number), ("beats", many))
            self.assertEqual(beat(paper_of(number)[1]) % many, 0)
        for number, many in [(("number", (2, 0, -4, 0, 1), 1), 2), (("number", (1, 0, 0, -9, 0, 0, 1), 1), 3)]:
            self.assertEqual((common_beat(number), standing(number)), (many, "beyond"))
            self.assertIs(is_pace(number), False)
            self.assertIs(is_beatless_paper(number, ("beats", many)), True)
            self.assertIs(is_beatless_paper(number, ("ring", ring_for(number))), True)
            self.assertIs(is_paper(number, ("beats", many)), False)

    def test_the_example(self):
        paper = ("machine", ("machine", 1, ((0, 0, 2, 2),)), (((1, 0), 1),))
        check_call(self, is_paper, (ROOT, paper), True)
        check_call(self, is_beatless_paper, (ROOT, paper), False)
        check_call(self, is_beatless_paper, (ROOT, ("beats", 2)), True)
        self.assertEqual([standing(ROOT), common_beat(ROOT), standing(LESS)], ["beats", 2, "beyond"])
        for judge in [is_paper, is_beatless_paper]:
            check_call(self, judge, (LESS, ("ring", (1, 1))), True)

    def test_too_many_only_where_it_may_be(self):
        for least in [(6994, -369, -19, 1), (3243, -1764, 354, -31, 1), (-6616, 1071, -57, 1)]:
            number = ("number", least, 0)
            self.assertIs(is_pace(number), True)
            for function, made in [(paper_of, machine_for), (beatless_paper, beatless_machine)]:
                told = check_state(self, TooMany, function, number)
                wanted = check_state(self, TooMany, made, number)
                self.assertEqual((told.what, told.limit), (wanted.what, wanted.limit))
        # Its own number is alone and comes to no good cone; with each power of 2 it beats.
        number = ("number", (6994, 0, -369, 0, -19, 0, 1), 0)
        self.assertEqual(standing(number), "beats")
        self.assertEqual(beatless_paper(number), ("beats", 2))
        self.assertEqual(check_state(self, TooMany, paper_of, number).what, "cuts")
        for number in BEYOND:
            self.assertEqual([paper_of(number)[0], beatless_paper(number)[0]], ["ring", "ring"])


class Machines(unittest.TestCase):
    def check_refused_by_both(self, number, value):
        """Neither judge takes it."""
        self.assertIs(is_paper(number, value), False, value)
        self.assertIs(is_beatless_paper(number, value), False, value)

    def test_papers_from_elsewhere(self):
        for value in [TIED_PAPER, ("machine", TIED, (((-1, 1), 5), ((1, 0), 5))),
                      ("machine", TIED, tuple([mix_times(GREATER, mix, ((3, 7), 2)) for mix in TIED_PAPER[2]]))]:
            self.assertIs(is_paper(GREATER, value), True)
            self.assertIs(is_beatless_paper(GREATER, value), True)
            self.check_refused_by_both(LESSER, value)
            self.check_refused_by_both(ROOT, value)
        golden = ("machine", 1, ((0, 0, 1, 1), (0, 0, 2, 1)))
        self.assertIs(is_paper(GOLD, ("machine", golden, (((0, 1), 3),))), True)
        self.check_refused_by_both(("number", (1, -1, -1, -1, 1), 0), ("machine", golden, (((0, 1), 3),)))

    def test_a_beat_above_one(self):
        # Two steps of 1.618.. make 2.618..: the machine with all lengths doubled has the pace 1.618..
        doubled = ("machine", 2, ((0, 0, 2, 2), (0, 1, 2, 1), (1, 0, 2, 1), (1, 1, 2, 1)))
        value = ("machine", doubled, (((0, 1), 1), ((1, 0), 1)))
        self.assertEqual(beat(doubled), 2)
        self.assertIs(is_paper(GOLD, value), True)
        self.assertIs(is_beatless_paper(GOLD, value), False)

    def test_machines_that_do_not_hang_together(self):
        apart = ("machine", 2, ((0, 0, 1, 3), (1, 1, 1, 3)))
        number = ("number", (-3, 1), 0)
        self.check_refused_by_both(number, ("machine", apart, (((1,), 1), ((1,), 1))))
        self.check_refused_by_both(number, ("machine", ("machine", 1, ()), (((1,), 1),)))
        one_way = ("machine", 2, ((0, 0, 1, 2), (0, 1, 1, 1), (1, 1, 1, 3)))
        self.check_refused_by_both(number, ("machine", one_way, (((1,), 1), ((1,), 1))))

    def bent(self, number, paper):
        """The paper of the word "machine" bent in one thing, so that it is none any more."""
        _, machine, told = paper
        _, places, roads = machine
        found = [changed(paper, (0,), word) for word in ["ring", "Machine", "paper", "", None, ("machine",), b"machine"]]
        found += [paper + (0,), paper[:2], (paper,), ("machine", told, machine), ("machine", roads, told)]
        found += lists_within(paper) + trues_within(paper)
        for at, (row, under) in enumerate(told):
            if places > 1:
                greater = mix_made(number, [row[0] + under] + list(row[1:]), under)
                found.append(changed(paper, (2, at), greater))
            found.append(changed(paper, (2, at), (tuple([2 * factor for factor in row]), 2 * under)))
            found.append(changed(paper, (2, at), (row, 0)))
            found.append(changed(paper, (2, at), (tuple([-factor for factor in row]), -under)))
            found.append(changed(paper, (2, at), (row + (0,), under)))
            found.append(changed(paper, (2, at), (row[:-1], under)))
            found.append(changed(paper, (2, at), None))
        found.append(changed(paper, (2,), tuple([(tuple([-factor for factor in row]), under) for row, under in told])))
        found.append(changed(paper, (2,), tuple([((0,) * len(row), 1) for row, _ in told])))
        found += [changed(paper, (2,), told + told[:1]), changed(paper, (2,), told[1:]), changed(paper, (2,), None)]
        for at, road in enumerate(roads):
            found.append(changed(paper, (1, 2, at), road[:3] + (road[3] + 1,)))
            found.append(changed(paper, (1, 2, at), road[:2] + (road[2] + 1,) + road[3:]))
            found.append(changed(paper, (1, 2), roads[:at] + roads[at + 1:]))
        found += [changed(paper, (1, 2), roads + roads[-1:]), changed(paper, (1, 1), places + 1)]
        if len(roads) > 1:
            found.append(changed(paper, (1, 2), roads[::-1]))
        return found

    def test_bent_ones(self):
        for number in [GREATER, ROOT, ("number", (-5, 1), 0), ("number", (-1, -1, 0, 1), 0), ALONE[9], BEATS[4], BEATS[10]]:
            paper = paper_of(number)
            self.assertIs(is_paper(number, paper), True)
            for value in self.bent(number, paper):
                self.check_refused_by_both(number, value)
        for value in self.bent(GREATER, TIED_PAPER):
            self.check_refused_by_both(GREATER, value)

    def test_weights_below_nought_alone_keep_the_equations(self):
        told = tuple([(tuple([-factor for factor in row]), under) for row, under in TIED_PAPER[2]])
        self.check_refused_by_both(GREATER, ("machine", TIED, told))

    def test_another_root_of_the_same_polynomial(self):
        for number, other in [(GREATER, LESSER), (("number", (2, -4, 1), 0), LESS),
                              (("number", (2, 0, -4, 0, 1), 0), ("number", (2, 0, -4, 0, 1), 1)),
                              (("number", (1, 0, -10, 0, 1), 0), ("number", (1, 0, -10, 0, 1), 1))]:
            paper = paper_of(number)
            self.assertEqual(paper[0], "machine")
            self.assertIs(is_paper(number, paper), True)
            self.check_refused_by_both(other, paper)
            ring = paper_of(other)
            self.assertEqual(ring[0], "ring")
            self.assertIs(is_paper(other, ring), True)
            self.check_refused_by_both(number, ring)

    def test_no_machines_at_all(self):
        for machine in NO_MACHINES:
            self.check_refused_by_both(GREATER, ("machine", machine, TIED_PAPER[2]))


class Rings(unittest.TestCase):
    def check_ring(self, number, ratio, wanted):
        """Both judges say of the ring what is wanted."""
        for judge in [is_paper, is_beatless_paper]:
            check_call(self, judge, (number, ("ring", ratio)), wanted)

    def test_rings_of_a_number_beyond(self):
        # The conjugate is 3.414.., the number 0.585..
        for ratio, wanted in [((585, 1000), False), ((117, 200), False), ((586, 1000), False), ((293, 500), True),
                              ((1, 1), True), ((3, 1), True), ((17, 5), True), ((3414, 1000), False), ((1707, 500), True),
                              ((683, 200), False), ((4, 1), False), ((0, 1), False), ((-1, 1), False), ((-3, 1), False)]:
            self.check_ring(LESS, ratio, wanted)

    def test_at_the_number_and_just_above_it(self):
        for number in BEYOND:
            told = ring_for(number)
            self.check_ring(number, told, True)
            self.check_ring(number, ratio_plus(told, (10 ** 6, 1)), False)
            self.check_ring(number, (0, 1), False)
        # Of the roots of t t + 6 t - 10 the size of the other one is 7.35..
        number = ("number", (-10, 6, 1), 0)
        self.check_ring(number, (7, 1), True)
        self.check_ring(number, (8, 1), False)
        self.check_ring(number, (2, 1), True)
        self.check_ring(number, (1, 1), False)

    def test_at_the_greatest_size(self):
        for number in BEYOND + [number for number in some(902, 80) if standing(number) == "beyond"]:
            floor = size_floor(number[1], 40)
            above = number_beside(number, ratio_made(floor, 2 ** 40)) == -1
            self.check_ring(number, ratio_made(floor, 2 ** 40), above)
            self.check_ring(number, ratio_made(floor + 1, 2 ** 40), False)

    def test_on_a_ring_itself(self):
        # The roots of t ** 4 - t ** 3 - t ** 2 - t + 1 are 1.722.., 0.580.. and two of the size 1.
        number = ("number", (1, -1, -1, -1, 1), 1)
        self.assertEqual(ring_count(number[1], (1, 1)), (1, 2, 1))
        self.check_ring(number, (1, 1), True)
        # Here two have the size 2.
        number = ("number", (16, -36, -9, -9, 1), 1)
        self.assertEqual(ring_count(number[1], (2, 1)), (1, 2, 1))
        self.check_ring(number, (2, 1), True)

    def test_of_numbers_that_are_not_beyond(self):
        for number in ALONE + BEATS:
            self.assertIn(number_beside(number, (1, 1)), [0, 1])
            for ratio in [(1, 2), (1, 1), (3, 2), (2, 1), (10, 1), (101, 1), (10 ** 4, 1), (10 ** 39, 1)]:
                self.check_ring(number, ratio, False)

    def test_bent_ones(self):
        for value in [("ring", (2, 2)), ("ring", [1, 1]), ["ring", (1, 1)], ("ring", (True, 1)), ("ring", (1, True)),
                      ("Ring", (1, 1)), ("beats", (1, 1)), ("machine", (1, 1)), ("ring", 1), ("ring", (1, 1), 0), ("ring",),
                      ("ring", (1,)), ("ring", (1, 1, 1)), (b"ring", (1, 1)), ("ring", None), ("second", (1, 1))]:
            self.assertIs(is_paper(LESS, value), False)
            self.assertIs(is_beatless_paper(LESS, value), False)
        for ratio in NO_RATIOS:
            self.assertIs(is_paper(LESS, ("ring", ratio)), False)
            self.assertIs(is_beatless_paper(LESS, ("ring", ratio)), False)

    def test_near_the_number(self):
        for number in BEYOND[:6]:
            low = ratio_made(number_floor(number, 200), 2 ** 200)
            self.check_ring(number, low, False)
            high = ratio_plus(low, (1, 2 ** 200))
            self.check_ring(number, high, True)
            self.check_ring(number, ratio_minus(low, (1, 2 ** 200)), False)


class Beats(unittest.TestCase):
    def test_each_many(self):
        for number in ALONE + BEATS + BEYOND:
            for many in range(-2, 9):
                wanted = many >= 2 and not [power for power, factor in enumerate(number[1]) if factor and power % many]
                check_call(self, is_beatless_paper, (number, ("beats", many)), wanted)
                check_call(self, is_paper, (number, ("beats", many)), False)

    def test_bent_ones(self):
        number = ("number", (-2, 0, 0, 0, 0, 0, 1), 0)
        self.assertEqual([is_beatless_paper(number, ("beats", many)) for many in range(8)],
                         [False, False, True, True, False, False, True, False])
        for value in [("beats", True), ("beats", False), ("beats", "2"), ("beats", (2,)), ("beats", None), ("Beats", 2),
                      ("beat", 2), ["beats", 2], ("beats", 2, 2), ("beats",), ("beats", [2]), ("beats", 10 ** 39),
                      ("beats", -6), ("ring", 2), (2, "beats")]:
            self.assertIs(is_beatless_paper(number, value), False)
            self.assertIs(is_paper(number, value), False)


class AnyValue(unittest.TestCase):
    def test_any_value_is_judged(self):
        values = ODD + NO_NUMBERS + NO_RATIOS + NO_MACHINES
        values += [("ring", value) for value in values] + [("beats", value) for value in values]
        values += [("machine", TIED, value) for value in values] + [("machine", value, ()) for value in NO_MACHINES]
        for number in [GREATER, ROOT, LESS]:
            for value in values:
                for judge in [is_paper, is_beatless_paper]:
                    self.assertIs(type(judge(number, value)), bool)
        for value in ODD:
            self.assertIs(is_paper(GREATER, value), False)
            self.assertIs(is_beatless_paper(GREATER, value), False)

    def test_weights_of_any_machine_that_was_made(self):
        for number in ALONE[:8] + BEATS[:4]:
            machine = machine_for(number)
            self.assertIs(is_machine(machine), True)
            self.assertIs(is_paper(number, ("machine", machine, weights(machine, number))), True)


class Wrong(unittest.TestCase):
    def test_wrong_values(self):
        for function in [is_pace, is_beatless_pace, paper_of, beatless_paper]:
            check_wrong(self, function, (GREATER,), [BAD_NUMBER])
        for function in [is_paper, is_beatless_paper]:
            for value in [TIED_PAPER, None, ("ring", (4, 1))]:
                check_wrong(self, lambda number: function(number, value), (GREATER,), [BAD_NUMBER])


if __name__ == "__main__":
    unittest.main()
