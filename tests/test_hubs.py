"""ROUNDS and the numbers that they have as paces [103] to [105], [107]."""

import unittest

from helpers import BAD_NUMBER, BAD_ROUNDS, NO_COUNTS, NO_ROUNDS, check_call, check_state, check_wrong, divisor_of, times
from somenumbers import ALONE, BEATS, BEYOND, lists_within, some, trues_within

from whichpaces.dominance import common_beat, standing
from whichpaces.errors import NoHub, TooMany
from whichpaces.hubs import beatless_hub, hub_for, hub_machine, is_hub_of, is_rounds
from whichpaces.machines import beat, hubs, is_machine, is_together
from whichpaces.multipliers import multiplier, second_roots
from whichpaces.numbersums import number_power
from whichpaces.paces import pace

THIRD, ROOT, GREATER = ("number", (-1, 1, -2, 1), 0), ("number", (-2, 0, 1), 0), ("number", (1, -3, 1), 0)
GOLD, PLASTIC = ("number", (-1, -1, 1), 0), ("number", (-1, -1, 0, 1), 0)
TOO_OFTEN = (10 ** 40) ** 10
# Numbers that are alone, without second roots: without a hub length; with a multiplier above 54; with long rounds.
TOO_LONG = [(-1729, 24, -2, 1), (-6873, 57, -3, 1), (-5846, 18, -1, 1), (-7474, 39, -2, 1)]
TOO_NEAR = [(-4040, 890, -60, 1), (-1, 3, -1, -3, 1), (-1, 2, 3, -4, -5, 1)]
LONG = [(-3422, 15, -1, 1), (-6522, 56, -3, 1), (-1, 3, -3, -1, 1), (-2, 4, 0, -5, 0, 1)]


def plain_rest(row, under):
    """The rest of a polynomial by a monic one, told with lists."""
    row = list(row)
    while len(row) >= len(under):
        top = row.pop()
        for at in range(len(under) - 1):
            row[len(row) - len(under) + 1 + at] -= top * under[at]
    return row


def has_pace(number, rounds):
    """Whether the rounds tell a power of the number: their polynomial is divided by the least one."""
    most = rounds[-1][0]
    row = [0] * most + [1]
    for length, many in rounds:
        row[most - length] -= many
    return not any(plain_rest(row, number[1]))


def plain_hub(number, beatless):
    """The rounds of the least length, as the document tells them; None without such ones."""
    beats = common_beat(number)
    power = number[1][::beats]
    whole = times(power, *[(1, 1)] * multiplier(("number", power, number[2])))
    rest = [0] * (len(whole) - 2) + [1]
    for length in range(len(whole) - 1, 401):
        rest = plain_rest([0] + rest, whole)
        if length * beats <= 400 and min(rest) >= 0 and max(rest) < TOO_OFTEN:
            found = tuple(sorted([((length - at) * beats, many) for at, many in enumerate(rest) if many]))
            if not beatless or divisor_of([told for told, _ in found]) == 1:
                return found
    return None


class AreRounds(unittest.TestCase):
    def test_right_ones(self):
        for value in [((1, 1),), ((400, 1),), ((1, TOO_OFTEN - 1),), ((1, 1), (2, 1), (400, 9)), ((2, 5), (4, 5)),
                      tuple([(length, 1) for length in range(1, 61)]), tuple([(length, 1) for length in range(341, 401)])]:
            check_call(self, is_rounds, (value,), True)
            machine = ("machine", 1, tuple([(0, 0, length, many) for length, many in value]))
            check_call(self, hub_machine, (value,), machine)
            self.assertIs(is_machine(machine), True)
            self.assertIs(is_together(machine), True)
            self.assertEqual(hubs(machine), [0])
            self.assertEqual(beat(machine), divisor_of([length for length, _ in value]))

    def test_almost_rounds(self):
        for value in NO_ROUNDS:
            self.assertIs(is_rounds(value), False, value)
            self.assertIs(is_hub_of(THIRD, value), False, value)
        right = ((1, 1), (2, 1), (4, 1))
        for value in lists_within(right) + trues_within(right) + [right[::-1], right + right[-1:], right[1:] + right[:1]]:
            self.assertIs(is_rounds(value), False, value)
            self.assertIs(is_hub_of(THIRD, value), False, value)

    def test_wrong_values(self):
        check_wrong(self, hub_machine, (((1, 1),),), [BAD_ROUNDS])


class Judged(unittest.TestCase):
    def test_right_rounds_and_one_road_more_and_less(self):
        for number, rounds in [(THIRD, ((1, 1), (2, 1), (4, 1))), (ROOT, ((2, 2),)), (ROOT, ((2, 1), (4, 2))), (GOLD, ((1, 1), (2, 1))),
                               (GOLD, ((1, 1), (3, 1), (4, 1))), (GOLD, ((2, 2), (3, 1))), (PLASTIC, ((2, 1), (3, 1))),
                               (PLASTIC, ((1, 1), (5, 1))), (("number", (-5, 1), 0), ((1, 5),)),
                               (("number", (-5, 1), 0), ((1, 4), (2, 5))), (("number", (-5, 1), 0), ((2, 25),)),
                               (("number", (-1, 1), 0), ((1, 1),)), (("number", (-1, 1), 0), ((400, 1),)),
                               (("number", (-2, 1), 0), ((400, 2 ** 400),))]:
            check_call(self, is_hub_of, (number, rounds), True)
            self.assertIs(has_pace(number, rounds), True)
            for at, (length, many) in enumerate(rounds):
                more = rounds[:at] + ((length, many + 1),) + rounds[at + 1:]
                check_call(self, is_hub_of, (number, more), False)
                less = rounds[:at] + ((length, many - 1),) * (many > 1) + rounds[at + 1:]
                check_call(self, is_hub_of, (number, less), False)
            self.assertIs(is_hub_of(GREATER, rounds), False)

    def test_by_plain_division(self):
        for number in some(103, 60):
            for rounds in [((1, 1),), ((1, 1), (2, 1)), ((1, 2),), ((2, 2),), ((1, 1), (2, 1), (3, 1)), ((2, 1), (3, 1))]:
                check_call(self, is_hub_of, (number, rounds), has_pace(number, rounds))

    def test_by_the_pace(self):
        for rounds in [((1, 3), (2, 1)), ((1, 1), (4, 2)), ((2, 3), (4, 1)), ((3, 5),), ((5, 1), (6, 3)), ((1, 1), (2, 2), (3, 3))]:
            check_call(self, is_hub_of, (pace(hub_machine(rounds)), rounds), True)

    def test_lesser_roots_have_no_rounds(self):
        # 0.381.. and 2.618.. are the roots of one polynomial; only the greater one could be a pace.
        for number in BEYOND:
            self.assertIs(is_hub_of(number, ((1, 1), (2, 1))), False)
        self.assertIs(is_hub_of(("number", (1, -3, 1), 1), ((1, 3),)), False)

    def test_wrong_values(self):
        for value in [((1, 1),), None]:
            check_wrong(self, lambda number: is_hub_of(number, value), (THIRD,), [BAD_NUMBER])


class Told(unittest.TestCase):
    def check_told(self, function, number, beatless):
        """What the function tells, or that there are no rounds, by the plain look."""
        if second_roots(number) or standing(number) not in (["alone"] if beatless else ["alone", "beats"]):
            check_state(self, NoHub, function, number)
            return "none"
        power = ("number", number[1][::common_beat(number)], number[2])
        try:
            multiplier(power)
        except TooMany:
            told = check_state(self, TooMany, function, number)
            self.assertEqual((told.what, told.limit), ("multiplier", 54))
            return "multiplier"
        wanted = plain_hub(number, beatless)
        if wanted is None:
            told = check_state(self, TooMany, function, number)
            self.assertEqual((told.what, told.limit), ("lengths", 400))
            return "lengths"
        check_call(self, function, (number,), wanted)
        self.assertIs(is_rounds(wanted), True)
        self.assertIs(has_pace(number, wanted), True)
        self.assertIs(is_hub_of(number, wanted), True)
        self.assertLess(max([many for _, many in wanted]), TOO_OFTEN)
        return wanted

    def test_known_ones(self):
        for number in ALONE + BEATS + BEYOND:
            self.check_told(hub_for, number, False)
            self.check_told(beatless_hub, number, True)

    def test_the_examples(self):
        for number, rounds in [(THIRD, ((1, 1), (2, 1), (4, 1))), (ROOT, ((2, 2),)), (GOLD, ((1, 1), (2, 1))),
                               (("number", (-7, 1), 0), ((1, 7),)), (("number", (-2, 0, 0, 0, 0, 0, 1), 0), ((6, 2),))]:
            self.assertEqual(self.check_told(hub_for, number, False), rounds)
        self.assertEqual(multiplier(THIRD), 1)
        self.assertEqual(beatless_hub(THIRD), ((1, 1), (2, 1), (4, 1)))
        for number in [ROOT, GREATER, ("number", (2, -4, 1), 1), ("number", (-10, 6, 1), 0)]:
            check_state(self, NoHub, beatless_hub, number)

    def test_of_all_degrees(self):
        seen = []
        for number in some(104, 250):
            told = self.check_told(hub_for, number, False)
            if isinstance(told, tuple):
                seen.append((len(number[1]) - 1, standing(number)))
            told = self.check_told(beatless_hub, number, True)
            if isinstance(told, tuple):
                self.assertEqual(divisor_of([length for length, _ in told]), 1)
        for degree in range(1, 7):
            self.assertIn((degree, "alone"), seen)
        self.assertIn((4, "beats"), seen)

    def test_long_ones(self):
        for least in LONG:
            told = self.check_told(hub_for, ("number", least, 0), False)
            self.assertGreater(told[-1][0], 150)
            self.check_told(beatless_hub, ("number", least, 0), True)

    def test_multipliers_up_to_the_limit(self):
        for least in [(-4068, 829, -59, 1), (-2214, 623, -57, 1), (-2890, 652, -51, 1)]:
            self.assertGreaterEqual(multiplier(("number", least, 0)), 53)
            told = self.check_told(hub_for, ("number", least, 0), False)
            self.assertGreater(len(told), 30)

    def test_too_much(self):
        for least in TOO_LONG:
            self.assertEqual(self.check_told(hub_for, ("number", least, 0), False), "lengths")
            self.assertEqual(self.check_told(beatless_hub, ("number", least, 0), True), "lengths")
        for least in TOO_NEAR:
            self.assertEqual(self.check_told(hub_for, ("number", least, 0), False), "multiplier")
            self.assertEqual(self.check_told(beatless_hub, ("number", least, 0), True), "multiplier")
        self.assertEqual(self.check_told(hub_for, ("number", (1, -3, 1), 0), False), "none")

    def test_too_much_of_a_number_that_beats(self):
        # The number to the power 2 has rounds up to the length 333 alone, twice that is too much.
        for least, told in [((-3422, 15, -1, 1), "lengths"), ((-4040, 890, -60, 1), "multiplier"),
                            ((-2722, 31, -4, 1), None), ((-5009, 778, -60, 1), None)]:
            self.assertEqual(standing(("number", least, 0)), "alone")
            number = ("number", (least[0], 0, least[1], 0, least[2], 0, 1), 0)
            self.assertEqual(standing(number), "beats")
            found = self.check_told(hub_for, number, False)
            if told is None:
                self.assertEqual(divisor_of([length for length, _ in found]) % 2, 0)
            else:
                self.assertEqual(found, told)
            check_state(self, NoHub, beatless_hub, number)

    def test_hub_lengths_about_four_hundred(self):
        for least, length in [((-6, 2, 1, -6, 0, 1), 399), ((-511, -8, 1, 1), 399), ((-4, 1, 8, -8, -1, 1), None), ((-3, 6, 0, -5, 0, 1), None)]:
            found = self.check_told(hub_for, ("number", least, 0), False)
            self.assertEqual(found if length is None else found[-1][0], "lengths" if length is None else length)
            self.check_told(beatless_hub, ("number", least, 0), True)
        # The number to the power 2 has the hub length 199, 200, 201.
        for least, length in [((-1125, 31, -3, 1), 398), ((-3492, 30, -2, 1), 400), ((-3490, 30, -2, 1), 400), ((-5979, 36, -2, 1), None)]:
            number = ("number", (least[0], 0, least[1], 0, least[2], 0, 1), 0)
            self.assertEqual(standing(number), "beats")
            found = self.check_told(hub_for, number, False)
            self.assertEqual(found if length is None else found[-1][0], "lengths" if length is None else length)

    def test_a_common_divisor(self):
        # Rounds of x * x with all lengths doubled are rounds of x, with the beat 2.
        for number in [PLASTIC, ("number", (-1, -1, -1, 1), 0), THIRD]:
            square = number_power(number, 2)
            if second_roots(square) == 0:
                rounds = tuple([(2 * length, many) for length, many in hub_for(square)])
                self.assertIs(is_hub_of(number, rounds), True)
                self.assertEqual(divisor_of([length for length, _ in rounds]) % 2, 0)
        self.assertIs(is_hub_of(("number", (-3, 1), 0), ((2, 9),)), True)

    def test_wrong_values(self):
        for function in [hub_for, beatless_hub]:
            check_wrong(self, function, (THIRD,), [BAD_NUMBER])

    def test_counts_alone_stand_in_rounds(self):
        for value in NO_COUNTS:
            self.assertIs(is_rounds(((value, 1),)), False)
            self.assertIs(is_rounds(((1, value),)), False)


if __name__ == "__main__":
    unittest.main()
