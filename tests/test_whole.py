"""What the document promises over the whole program [4], by the judges."""

import copy
import random
import unittest

from helpers import kinds_of, some_together
from sometables import about, exchanged, plain_pace, product, some_table
from somenumbers import ALONE, BEATS, BEYOND, some

from whichpaces.along import along, is_along, is_not_behind, not_behind
from whichpaces.between import is_between, paces_compared, ratio_between
from whichpaces.builds import in_turn, many_ties, side_by_side, turned_about
from whichpaces.commands import answer_to, is_answer, statement_of
from whichpaces.deciding import is_beatless_pace, is_beatless_paper, is_pace, is_paper
from whichpaces.dominance import standing
from whichpaces.errors import NotTogether, TooMany
from whichpaces.hubpapers import is_beatless_hub_paper, is_hub_paper
from whichpaces.hubs import hub_machine
from whichpaces.machines import beat, hubs, is_together, ways, ways_between
from whichpaces.multipliers import second_roots
from whichpaces.numbers import number_floor
from whichpaces.paces import pace
from whichpaces.readers import read_paper
from whichpaces.tables import machine_of, table_of
from whichpaces.texts import has_paper_form, paper_text
from whichpaces.weights import is_weights, weights

JUDGES = {"pace": is_paper, "beatless": is_beatless_paper, "hub": is_hub_paper, "beatlesshub": is_beatless_hub_paper}
LIMITS = [("cuts", 400), ("lengths", 400), ("figures", 400), ("multiplier", 54)]


class Numbers(unittest.TestCase):
    def sides(self, number):
        """What each question is to be answered with, by standings and second roots."""
        told, free = standing(number), second_roots(number) == 0
        return {"pace": told != "beyond", "beatless": told == "alone", "hub": free and told != "beyond", "beatlesshub": free and told == "alone"}

    def check_number(self, number):
        """Each question has an answer of the right side, which its own judge takes, and that of no other number."""
        sides = self.sides(number)
        self.assertEqual([is_pace(number), is_beatless_pace(number)], [sides["pace"], sides["beatless"]])
        found = {}
        for word, judge in JUDGES.items():
            question, things = (word, "a"), [number]
            try:
                answer = answer_to(question, things)
            except TooMany as wrong:
                self.assertIn((wrong.what, wrong.limit), LIMITS)
                self.assertIs(sides[word], True)
                continue
            self.assertEqual(things, [number])
            self.assertEqual(answer_to(question, things), answer)
            self.assertIs(judge(number, answer), True)
            self.assertIs(is_answer(question, things, answer), True)
            self.assertEqual(statement_of(question, answer), "yes" if sides[word] else "no")
            self.check_sizes(answer)
            if has_paper_form(answer):
                self.assertEqual(read_paper(paper_text(answer)), answer)
            found[word] = answer
        self.check_machines(number, found)
        return found

    def check_sizes(self, value):
        """No list or tuple has more than 4000 elements, no INTEGER more than 400 digits."""
        if isinstance(value, tuple):
            self.assertLessEqual(len(value), 4000)
            for part in value:
                self.check_sizes(part)
        elif isinstance(value, int):
            self.assertLess(abs(value), 10 ** 400)

    def check_machines(self, number, found):
        """The machines of the answers hang together, have the wanted beats and hubs, and the pace."""
        machines = [(word, answer[1]) for word, answer in found.items() if answer[0] == "machine"]
        machines += [(word, hub_machine(answer[1])) for word, answer in found.items() if answer[0] == "hub"]
        for word, machine in machines:
            self.assertIs(is_together(machine), True)
            if word.startswith("beatless"):
                self.assertEqual(beat(machine), 1)
            if word.endswith("hub"):
                self.assertEqual(hubs(machine), [0])
            told = weights(machine, number)
            self.assertIs(is_weights(machine, number, told), True)
            self.assertIs(is_paper(number, ("machine", machine, told)), True)
            self.assertIs(is_beatless_paper(number, ("machine", machine, told)), beat(machine) == 1)
            try:
                self.assertEqual(pace(machine), number)
            except TooMany as wrong:
                self.assertEqual(wrong.what, "length")

    def test_known_ones(self):
        for number in ALONE + BEATS + BEYOND:
            self.check_number(number)

    def test_drawn_ones(self):
        seen = []
        for number in some(4, 120):
            found = self.check_number(number)
            seen.append(tuple([found[word][0] for word in JUDGES if word in found]))
        for told in [("machine", "machine", "hub", "hub"), ("ring",) * 2 + ("second",) * 2, ("ring",) * 4, ("machine", "machine", "second", "second"),
                     ("machine", "beats", "hub", "beats")]:
            self.assertIn(told, seen)

    def test_of_one_number_alone(self):
        # A "yes" of one number is refused of each other one.
        numbers = ALONE[:8] + BEATS[:4] + BEYOND[:4]
        for number in numbers:
            for word, judge in JUDGES.items():
                answer = answer_to((word, "a"), [number])
                if statement_of((word, "a"), answer) == "yes":
                    for other in numbers:
                        self.assertIs(judge(other, answer), other == number)

    def test_ways_grow_by_the_pace(self):
        # Ways of machines with weights: weights of the ends, added up over all ways, grow by the pace with each step.
        for least in [(-1, -1, 1), (1, -3, 1), (-1, -1, 0, 1), (-1, 1, -2, 1), (-2, 0, 1)]:
            number = ("number", least, 0)
            machine = answer_to(("pace", "a"), [number])[1]
            x = number_floor(number, 100) / 2 ** 100
            step = beat(machine)
            counts = [ways(machine, 0, length) / x ** length for length in range(0, 61, step)]
            self.assertLess(max(counts[1:]), 50)
            self.assertGreater(min([count for count in counts[len(counts) // 2:] if count]), 0.001)


class Machines(unittest.TestCase):
    def test_papers_of_machines_that_are_drawn(self):
        chance = random.Random(44)
        seen = 0
        for _ in range(80):
            machine = some_together(chance, chance.randint(1, 4), chance.randint(0, 4), 2, 3)
            try:
                number = pace(machine)
            except TooMany:
                continue
            told = weights(machine, number)
            self.assertIs(is_paper(number, ("machine", machine, told)), True)
            self.assertIs(is_beatless_paper(number, ("machine", machine, told)), beat(machine) == 1)
            self.assertIn(standing(number), ["alone"] if beat(machine) == 1 else ["alone", "beats"])
            if hubs(machine):
                self.assertEqual(second_roots(number), 0)
            self.assertEqual(pace(turned_about(machine)), number)
            seen += 1
        self.assertGreater(seen, 30)

    def test_tables_of_machines(self):
        chance = random.Random(45)
        for _ in range(40):
            machine = some_together(chance, chance.randint(1, 3), chance.randint(0, 2), 2, 3)
            table = table_of(machine)
            if len(table) <= 6:
                frame = along(table, table_of(turned_about(machine)))
                self.assertIs(is_along(table, table_of(turned_about(machine)), frame), True)
                for length in range(7):
                    self.assertEqual(ways_between(machine_of(table), 0, 0, length), ways_between(machine, 0, 0, length))


class TwoTables(unittest.TestCase):
    def check_pair(self, one, other):
        """Just one of both is told, by what the judges take."""
        kept = copy.deepcopy((one, other))
        frame, ratio, stays = along(one, other), ratio_between(one, other), not_behind(one, other)
        self.assertEqual((along(one, other), ratio_between(one, other), not_behind(one, other)), (frame, ratio, stays))
        compared = paces_compared(one, other)
        apart = plain_pace(one) - plain_pace(other)
        self.assertEqual(compared, 0 if abs(apart) < 3 else 1 if apart > 0 else -1)
        self.assertEqual([frame is None, ratio is None, stays is None], [compared != 0, compared == 0, compared == 1])
        if frame is not None:
            self.assertIs(is_along(one, other, frame), True)
            self.assertEqual(product(one, frame), product(frame, other))
            turned = tuple(zip(*frame))
            self.assertIs(is_along(about(other), about(one), turned), True)
        else:
            self.assertIs(is_between(one, other, ratio), True)
        if stays is not None:
            self.assertIs(is_not_behind(one, other, stays), True)
        for word in ["along", "behind"]:
            answer = answer_to((word, "a", "b"), [one, other])
            self.assertIs(is_answer((word, "a", "b"), [one, other], answer), True)
            self.assertEqual(statement_of((word, "a", "b"), answer), "yes" if compared == 0 or (word == "behind" and compared == -1) else "no")
        self.assertEqual((one, other), kept)
        self.assertEqual(kinds_of((one, other)), kinds_of(kept))
        return compared

    def test_drawn_ones(self):
        chance = random.Random(46)
        seen = []
        for _ in range(120):
            most = chance.choice([1, 2, 9, 999])
            one = some_table(chance, chance.randint(1, 6), most)
            sequence = list(range(len(one)))
            chance.shuffle(sequence)
            alike = exchanged(one, sequence)
            for other in [some_table(chance, chance.randint(1, 6), most), chance.choice([alike, about(alike)])]:
                seen.append(self.check_pair(one, other))
                self.assertEqual(self.check_pair(other, one), -seen[-1])
        for told in [-1, 0, 1]:
            self.assertIn(told, seen)

    def test_of_built_tables(self):
        chance = random.Random(47)
        for _ in range(30):
            one, other = some_table(chance, chance.randint(1, 3), 3), some_table(chance, chance.randint(1, 2), 3)
            self.assertEqual(self.check_pair(in_turn(one, other), in_turn(other, one)), 0)
            try:
                self.assertEqual(self.check_pair(side_by_side(one, other), side_by_side(other, one)), 0)
                self.check_pair(many_ties(one, 2), side_by_side(one, other))
            except NotTogether:
                self.assertIn(0, [number for row in one for number in row] + [number for row in other for number in row])


if __name__ == "__main__":
    unittest.main()
