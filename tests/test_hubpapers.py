"""Papers of numbers and one hub [4], [104], [106]."""

import unittest

from helpers import BAD_NUMBER, NO_MACHINES, NO_NUMBERS, NO_RATIOS, NO_ROUNDS, check_call, check_state, check_wrong
from helpers import divisor_of
from somenumbers import ALONE, BEATS, BEYOND, lists_within, some, trues_within
from test_hubs import TOO_LONG, TOO_NEAR

from whichpaces.deciding import is_beatless_paper, is_paper
from whichpaces.dominance import common_beat, ring_for, standing
from whichpaces.errors import TooMany
from whichpaces.hubpapers import beatless_hub_paper, hub_paper, is_beatless_hub_paper, is_hub_paper
from whichpaces.hubs import beatless_hub, hub_for, is_hub_of
from whichpaces.multipliers import second_roots
from whichpaces.numbers import number_beside, number_floor
from whichpaces.ratios import is_ratio, ratio_compared, ratio_made, ratio_plus
from whichpaces.realroots import count_between
from whichpaces.rings import ring_count

GREATER, LESSER = ("number", (1, -3, 1), 0), ("number", (1, -3, 1), 1)
THIRD, ROOT, LESS = ("number", (-1, 1, -2, 1), 0), ("number", (-2, 0, 1), 0), ("number", (2, -4, 1), 1)
# The roots 0.140.., 1.238.., 5.7..: each of them with two second roots.
THREE = [("number", (-1, 9, -7, 1), position) for position in range(3)]
JUDGES = [is_hub_paper, is_beatless_hub_paper]


def plain_judge(number, value, beatless):
    """Whether a hub paper that is of the right form is one."""
    if value[0] == "hub":
        return is_hub_of(number, value[1]) and (not beatless or divisor_of([told for told, _ in value[1]]) == 1)
    if value[0] == "second":
        _, low, high = value
        within = number_beside(number, low) == 1 and number_beside(number, high) == -1
        right = low[0] >= 0 and ratio_compared(low, high) == -1
        return right and not within and count_between(number[1], low, high) > 0
    if value[0] == "ring":
        above = number_beside(number, value[1]) == -1
        return above and ring_count(number[1], value[1])[0] < len(number[1]) - 1
    return beatless and value[1] > 1 and common_beat(number) % value[1] == 0


class Papers(unittest.TestCase):
    def check_one(self, number, tell, judge, beatless, fits):
        """The paper is right, and of the wanted kind, or TooMany comes as from the function that tells rounds."""
        try:
            paper = tell(number)
        except TooMany as wrong:
            told = check_state(self, TooMany, beatless_hub if beatless else hub_for, number)
            self.assertEqual((told.what, told.limit), (wrong.what, wrong.limit))
            self.assertIs(fits, True)
            return told.what
        check_call(self, tell, (number,), paper)
        check_call(self, judge, (number, paper), True)
        self.assertIs(plain_judge(number, paper, beatless), True)
        self.assertEqual(paper[0] == "hub", fits)
        return paper[0]

    def check_number(self, number):
        """Both papers of the number."""
        free = second_roots(number) == 0
        fits = free and standing(number) != "beyond"
        first = self.check_one(number, hub_paper, is_hub_paper, False, fits)
        fits = free and standing(number) == "alone"
        return first, self.check_one(number, beatless_hub_paper, is_beatless_hub_paper, True, fits)

    def test_known_ones(self):
        seen = [self.check_number(number) for number in ALONE + BEATS + BEYOND + THREE]
        for told in [("hub", "hub"), ("hub", "beats"), ("second", "second"), ("ring", "ring")]:
            self.assertIn(told, seen)

    def test_of_all_degrees(self):
        seen = []
        for number in some(106, 300, (1, 2, 5, 5, 40, 9999)):
            seen.append((self.check_number(number), len(number[1]) - 1))
        for degree in range(2, 7):
            for told in [("hub", "hub"), ("second", "second"), ("ring", "ring")]:
                self.assertIn((told, degree), seen)

    def test_too_many_only_where_rounds_are_told(self):
        for least in TOO_LONG:
            self.assertEqual(self.check_number(("number", least, 0)), ("lengths", "lengths"))
        for least in TOO_NEAR:
            self.assertEqual(self.check_number(("number", least, 0)), ("multiplier", "multiplier"))
        # It beats: without beats there are no rounds to be told.
        number = ("number", (-4040, 0, 890, 0, -60, 0, 1), 0)
        self.assertEqual(self.check_number(number), ("multiplier", "beats"))


class Bent(unittest.TestCase):
    def check_both(self, number, value, wanted):
        """Both judges say the same."""
        for judge in JUDGES:
            self.assertIs(judge(number, value), wanted, (number, value))

    def test_stretches(self):
        # The roots are 0.381.. and 2.618..
        for low, high, greater, lesser in [
                ((0, 1), (1, 1), True, False), ((0, 1), (3, 1), False, False), ((0, 1), (2, 5), True, False),
                ((3, 8), (2, 5), True, False), ((0, 1), (3, 8), False, False), ((2, 5), (1, 1), False, False),
                ((1, 1), (2, 1), False, False), ((1, 1), (3, 1), False, True), ((0, 1), (13, 5), True, False),
                ((0, 1), (21, 8), False, False), ((2, 5), (10 ** 39, 1), False, True), ((3, 8), (3, 1), False, False),
                ((21, 8), (3, 1), False, False), ((13, 5), (21, 8), False, True)]:
            self.check_both(GREATER, ("second", low, high), greater)
            self.check_both(LESSER, ("second", low, high), lesser)
            self.check_both(GREATER, ("second", high, low), False)
            self.check_both(LESSER, ("second", high, low), False)
            self.check_both(ROOT, ("second", low, high), False)

    def test_low_below_nought(self):
        for low in [(-1, 1), (-1, 10 ** 30), (-10 ** 39, 1)]:
            self.check_both(GREATER, ("second", low, (1, 1)), False)
        # A conjugate below 0 is no second root.
        self.check_both(ROOT, ("second", (-2, 1), (-1, 1)), False)
        self.check_both(ROOT, ("second", (-2, 1), (0, 1)), False)
        self.check_both(ROOT, ("second", (0, 1), (1, 1)), False)
        self.check_both(GREATER, ("second", (0, 1), (1, 1)), True)

    def test_ends_at_the_roots(self):
        # Of a number of degree 1 there are no conjugates; a RATIO is never a conjugate: here they are come near to.
        for position in range(3):
            for other in range(3):
                floor = number_floor(THREE[other], 100)
                low, high = ratio_made(floor, 2 ** 100), ratio_made(floor + 1, 2 ** 100)
                self.check_both(THREE[position], ("second", low, high), position != other)
                self.check_both(THREE[position], ("second", (0, 1), low), not_within(position, other + 1))
                self.check_both(THREE[position], ("second", (0, 1), high), not_within(position, other))
                beyond = ratio_plus(high, (10 ** 6, 1))
                self.check_both(THREE[position], ("second", high, beyond), position >= other > 0)
                self.check_both(THREE[position], ("second", low, beyond), position > other)
        for ratio in [(1, 1), (5, 1), (6, 1)]:
            self.check_both(("number", (-5, 1), 0), ("second", (0, 1), ratio), False)
            self.check_both(("number", (-5, 1), 0), ("second", ratio, (7, 1)), False)

    def test_not_of_the_right_form(self):
        right = ("second", (0, 1), (1, 1))
        self.check_both(GREATER, right, True)
        for value in lists_within(right) + trues_within(right) + [
                ("second", (0, 2), (1, 1)), ("second", (0, 1), (2, 2)), ("second", (0, 1)), right + (0,), ("Second", (0, 1), (1, 1)),
                ("second", 0, 1), ("second", None, (1, 1)), ("second", (0, 1), None), ("ring", (0, 1), (1, 1)), (right,),
                ("hub", (0, 1), (1, 1)), ("second", (1, 1), (0, 1)), ("second", (1, 1), (1, 1)), ("second", (0, -1), (1, 1)),
                (b"second", (0, 1), (1, 1)), (("second",), (0, 1), (1, 1)), ("second", ((0, 1), (1, 1)))]:
            self.check_both(GREATER, value, False)

    def test_rounds(self):
        paper = ("hub", ((1, 1), (2, 1), (4, 1)))
        self.check_both(THIRD, paper, True)
        for number in [ROOT, GREATER, LESS, ("number", (-1, -1, 0, 1), 0)]:
            self.check_both(number, paper, False)
        for value in lists_within(paper) + trues_within(paper) + [
                ("hub", ((1, 2), (2, 1), (4, 1))), ("hub", ((1, 1), (2, 1))), ("hub", ((1, 1), (2, 1), (4, 1), (5, 1))),
                ("hub", ((2, 1), (1, 1), (4, 1))), ("hub", ()), ("hub",), paper + (0,), ("Hub",) + paper[1:], ("ring",) + paper[1:],
                paper[1], ("machine",) + paper[1:], ("hub", ((1, 1), (1, 1), (2, 1))), ("hub", None), ("hub", 4), (paper,)]:
            self.check_both(THIRD, value, False)
        for value in NO_ROUNDS:
            self.check_both(THIRD, ("hub", value), False)

    def test_rounds_with_a_common_divisor(self):
        for number, rounds in [(ROOT, ((2, 2),)), (ROOT, ((2, 1), (4, 2))), (("number", (-3, 1), 0), ((2, 9),)),
                               (("number", (-3, 1), 0), ((3, 27),)), (("number", (-3, 1), 0), ((2, 8), (4, 9)))]:
            self.assertIs(is_hub_paper(number, ("hub", rounds)), True)
            self.assertIs(is_beatless_hub_paper(number, ("hub", rounds)), False)
        self.check_both(("number", (-3, 1), 0), ("hub", ((2, 6), (3, 9))), True)

    def test_rings_and_beats(self):
        self.check_both(LESS, ("ring", (1, 1)), True)
        self.check_both(LESS, ("ring", (4, 1)), False)
        self.check_both(LESS, ("ring", (1, 2)), False)
        self.check_both(LESS, ("ring", (2, 2)), False)
        self.check_both(LESS, ("ring", [1, 1]), False)
        for number in ALONE + BEATS + BEYOND:
            for many in range(-1, 8):
                wanted = many > 1 and common_beat(number) % many == 0
                self.assertIs(is_beatless_hub_paper(number, ("beats", many)), wanted)
                self.assertIs(is_hub_paper(number, ("beats", many)), False)
            if standing(number) == "beyond":
                self.check_both(number, ("ring", ring_for(number)), True)
        for value in [("beats", True), ("beats", "2"), ["beats", 2], ("beats",), ("beats", 2, 2), ("beats", None)]:
            self.check_both(ROOT, value, False)

    def test_papers_of_other_kinds(self):
        machine = ("machine", ("machine", 1, ((0, 0, 2, 2),)), (((1, 0), 1),))
        self.assertIs(is_paper(ROOT, machine), True)
        self.check_both(ROOT, machine, False)
        for judge in [is_paper, is_beatless_paper]:
            self.assertIs(judge(ROOT, ("hub", ((2, 2),))), False)
            self.assertIs(judge(GREATER, ("second", (0, 1), (1, 1))), False)

    def test_another_root_of_the_same_polynomial(self):
        for numbers in [[GREATER, LESSER], THREE, [("number", (1, 0, -10, 0, 1), 0), ("number", (1, 0, -10, 0, 1), 1)]]:
            for number in numbers:
                paper = hub_paper(number)
                self.assertEqual(paper[0], "second")
                self.assertIs(is_ratio(paper[1]) and is_ratio(paper[2]), True)
                for other in numbers:
                    self.check_both(other, paper, plain_judge(other, paper, False))


def not_within(position, lowest):
    """Of the stretch from 0 to below the roots of positions under the lowest: whether it is a paper of the number."""
    return lowest < 3 and position < lowest


class AnyValue(unittest.TestCase):
    def test_any_value_is_judged(self):
        values = NO_NUMBERS + NO_RATIOS + NO_ROUNDS + NO_MACHINES
        values += [(word, value) for word in ["hub", "ring", "beats"] for value in values]
        values += [("second", value, (1, 1)) for value in NO_RATIOS] + [("second", (0, 1), value) for value in NO_RATIOS]
        for number in [GREATER, THIRD]:
            for value in values:
                for judge in JUDGES:
                    self.assertIs(type(judge(number, value)), bool)
        for value in NO_RATIOS:
            for judge in JUDGES:
                self.assertIs(judge(GREATER, ("second", value, (1, 1))), False)
                self.assertIs(judge(GREATER, ("second", (0, 1), value)), False)


class Wrong(unittest.TestCase):
    def test_wrong_values(self):
        for function in [hub_paper, beatless_hub_paper]:
            check_wrong(self, function, (THIRD,), [BAD_NUMBER])
        for function in JUDGES:
            for value in [("hub", ((1, 1), (2, 1), (4, 1))), None, ("beats", 2)]:
                check_wrong(self, lambda number: function(number, value), (THIRD,), [BAD_NUMBER])


if __name__ == "__main__":
    unittest.main()
