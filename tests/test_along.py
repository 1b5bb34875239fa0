"""Frames of two tables [4], [111] to [113], [115]."""

import random
import unittest

from helpers import BAD_TABLE, check_call, check_state, check_wrong
from sometables import about, exchanged, plain_pace, product, some_table
from somenumbers import changed, lists_within, trues_within
from test_between import pairs_alike, ring_of

from whichpaces.along import along, is_along, is_not_behind, not_behind
from whichpaces.between import is_between, paces_compared, ratio_between
from whichpaces.errors import NotTogether, TooMany

NEAR, FAR, GOLDEN, TWO = ((2, 1), (1, 1)), ((1, 1), (1, 2)), ((1, 1), (1, 0)), ((2,),)
RING, ONE = ((0, 1), (1, 0)), ((1,),)
FRAME = ((1, 2), (1, 1))
ODD = [
    None, True, False, 0, 1, "frame", b"1", (), [], {}, object(), int, ((),), [()], (1,), (1, 2), ((1, 2),), ((1,), (1,)), ((1, 2), (1,)),
    ((1,), (1, 1)), ((1, 2, 1), (1, 1, 1)), ((1, 2), (1, 1), (1, 1)), ((1, 2), None), (None, None), ((1, 2), "11"), ("12", "11"),
    ((1, 2), (1, None)), ((1, 2), (1, "1")), ((1, 2), ((1,), 1)), ("along", FRAME), (FRAME,), {(1, 2): (1, 1)}, ((1, 2), (1, 10 ** 39)),
]


def plain_along(table, other, frame):
    """Whether tuples of numbers of the right form go along."""
    return min([min(row) for row in frame]) > 0 and product(table, frame) == product(frame, other)


def plain_behind(table, other, frame):
    """Whether tuples of numbers of the right form do not fall behind."""
    if min([min(row) for row in frame]) < 0 or max([max(row) for row in frame]) == 0:
        return False
    led, led_by = product(table, frame), product(frame, other)
    return all([number <= more for row, line in zip(led, led_by) for number, more in zip(row, line)])


class Pairs(unittest.TestCase):
    def check_frame(self, table, other, frame):
        """A tuple of tuples of INTEGERS that are not too great."""
        self.assertIs(type(frame), tuple)
        self.assertEqual(len(frame), len(table))
        for row in frame:
            self.assertIs(type(row), tuple)
            self.assertEqual(len(row), len(other))
            for number in row:
                self.assertIs(type(number), int)
                self.assertLess(abs(number), 10 ** 400)

    def check_alike(self, table, other):
        """Both paces are the same: a frame goes along."""
        frame = along(table, other)
        self.check_frame(table, other, frame)
        check_call(self, along, (table, other), frame)
        check_call(self, is_along, (table, other, frame), True)
        self.assertIs(plain_along(table, other, frame), True)
        check_call(self, is_not_behind, (table, other, frame), True)
        told = not_behind(table, other)
        check_call(self, not_behind, (table, other), told)
        self.check_behind(table, other, told)
        self.assertIsNone(ratio_between(table, other))
        return frame

    def check_behind(self, table, other, frame):
        """The frame does not fall behind."""
        self.check_frame(table, other, frame)
        check_call(self, is_not_behind, (table, other, frame), True)
        self.assertIs(plain_behind(table, other, frame), True)

    def check_apart(self, lesser, greater):
        """The first pace is less than the other one: no frame goes along, a RATIO lies between."""
        for one, two in [(lesser, greater), (greater, lesser)]:
            check_call(self, along, (one, two), None)
            self.assertIs(is_between(one, two, ratio_between(one, two)), True)
        frame = not_behind(lesser, greater)
        check_call(self, not_behind, (lesser, greater), frame)
        self.check_behind(lesser, greater, frame)
        check_call(self, not_behind, (greater, lesser), None)
        check_call(self, is_along, (lesser, greater, frame), False)
        return frame

    def test_the_example(self):
        check_call(self, is_along, (NEAR, FAR, FRAME), True)
        self.assertEqual(product(NEAR, FRAME), ((3, 5), (2, 3)))
        self.check_alike(NEAR, FAR)
        check_call(self, is_not_behind, (GOLDEN, TWO, ((1,), (1,))), True)
        self.check_apart(GOLDEN, TWO)

    def test_places_exchanged_and_turned_about(self):
        for one, other in pairs_alike(111, 60):
            self.check_alike(one, other)

    def test_of_one_table_twice(self):
        chance = random.Random(112)
        for places in range(1, 7):
            table = some_table(chance, places, 999)
            self.check_alike(table, table)
            self.check_alike(table, about(table))

    def test_products_turned_about(self):
        chance = random.Random(113)
        for _ in range(40):
            places, others = chance.randint(1, 6), chance.randint(1, 6)
            rows = tuple([tuple([chance.randint(1, 5) for _ in range(others)]) for _ in range(places)])
            lines = tuple([tuple([chance.randint(1, 5) for _ in range(places)]) for _ in range(others)])
            self.check_alike(product(rows, lines), product(lines, rows))

    def test_a_place_parted_in_two(self):
        chance = random.Random(114)
        for _ in range(40):
            table = some_table(chance, chance.randint(1, 5), chance.choice([2, 9, 999]))
            # What leads to the first place leads to one of two places now, both of which lead on as it did.
            heads = [chance.randint(0, row[0]) for row in table]
            parted = [(head, row[0] - head) + row[1:] for head, row in zip(heads, table)]
            other = tuple([parted[0]] + parted)
            try:
                self.check_alike(table, other)
            except NotTogether:
                self.assertIn(0, [sum([row[at] for row in other]) for at in range(2)])

    def test_of_degree_one_and_with_beats(self):
        for one, other in [(((2,),), ((1, 1), (1, 1))), (ONE, RING), (ONE, ring_of([0, 0, 0, 0, 0, 1])), (((3,),), ((0, 9), (1, 0))),
                           (ring_of([0] * 5 + [64]), ((0, 4), (1, 0))), (((0, 2), (1, 0)), ring_of([0, 0, 0, 4])),
                           (((1, 2), (2, 1)), ((0, 3), (3, 0)))]:
            self.check_alike(one, other)
            self.check_alike(other, one)

    def test_drawn_ones(self):
        chance = random.Random(115)
        seen = {-1: 0, 0: 0, 1: 0}
        for _ in range(150):
            most = chance.choice([1, 1, 2, 9, 999])
            one = some_table(chance, chance.randint(1, 6), most)
            other = some_table(chance, chance.randint(1, 6), most)
            apart = plain_pace(one) - plain_pace(other)
            told = paces_compared(one, other)
            self.assertEqual(told, 0 if abs(apart) < 3 else (1 if apart > 0 else -1))
            if told == 0:
                self.check_alike(one, other)
            else:
                self.check_apart(*([one, other] if told == -1 else [other, one]))
            seen[told] += 1
        self.assertGreater(min(seen.values()), 2)

    def test_near_one_another(self):
        for places in range(2, 7):
            self.check_apart(ring_of([999] * (places - 1) + [998]), ring_of([999] * places))
            self.check_apart(ring_of([0] * (places - 1) + [998]), ring_of([0] * (places - 1) + [999]))
            self.check_apart(((998,),), ring_of([998] + [1] * (places - 1)))

    def test_a_long_way_round(self):
        # From the first places to the last ones there are few ways: the frame's numbers are far from one another.
        rows = [tuple([998 * (place == other) + (other == (place + 1) % 6) for other in range(6)]) for place in range(6)]
        steep = tuple([tuple([(997 + (place == 5)) * (place == other) + (other == (place + 1) % 6) for other in range(6)])
                       for place in range(6)])
        self.check_alike(tuple(rows), ((999,),))
        self.check_apart(steep, tuple(rows))
        self.check_alike(steep, about(exchanged(steep, [3, 1, 5, 0, 2, 4])))

    def test_greatest_tables(self):
        full = ((999,) * 6,) * 6
        self.check_alike(full, full)
        self.check_apart(((999,) * 5 + (998,),) + ((999,) * 6,) * 5, full)


class Judged(unittest.TestCase):
    def test_bent_frames(self):
        for table, other in [(NEAR, FAR), (GOLDEN, GOLDEN)] + pairs_alike(116, 12):
            frame = along(table, other)
            for place, row in enumerate(frame):
                for at, number in enumerate(row):
                    for new in [number + 1, number - 1, 0, -number, 10 ** 30, None, str(number), (number,)]:
                        if new != number:
                            bent = changed(frame, (place, at), new)
                            right = isinstance(new, int) and plain_along(table, other, bent)
                            self.assertIs(is_along(table, other, bent), right)
                            right = isinstance(new, int) and plain_behind(table, other, bent)
                            self.assertIs(is_not_behind(table, other, bent), right)
            for value in lists_within(frame) + trues_within(frame) + [frame + frame[:1], frame[1:], (frame,), tuple([row[1:] for row in frame])]:
                self.assertIs(is_along(table, other, value), False)
                self.assertIs(is_not_behind(table, other, value), False)

    def test_multiples_and_sums(self):
        for table, other in pairs_alike(117, 12):
            frame = along(table, other)
            more = product(table, frame)
            for told in [tuple([tuple([7 * number for number in row]) for row in frame]), more,
                         tuple([tuple([number + two for number, two in zip(row, line)]) for row, line in zip(frame, more)])]:
                self.assertIs(is_along(table, other, told), True)
                self.assertIs(is_not_behind(table, other, told), True)
            below = tuple([tuple([-number for number in row]) for row in frame])
            self.assertIs(is_along(table, other, below), False)
            self.assertIs(is_not_behind(table, other, below), False)

    def test_a_nought_among_them(self):
        # 2 0 / 0 2 with itself: nothing would go along with a 0, but it does not fall behind.
        table = ((1, 1), (1, 1))
        self.assertIs(is_along(table, table, ((1, 1), (1, 1))), True)
        self.assertIs(is_along(table, table, ((1, 0), (0, 1))), False)
        self.assertIs(is_not_behind(table, table, ((1, 0), (0, 1))), True)
        self.assertIs(is_not_behind(table, table, ((0, 0), (0, 1))), False)
        self.assertIs(is_not_behind(table, table, ((0, 0), (0, 0))), False)
        self.assertIs(is_not_behind(ONE, TWO, ((0,),)), False)
        self.assertIs(is_not_behind(ONE, TWO, ((10 ** 39,),)), True)

    def test_not_the_other_way(self):
        chance = random.Random(118)
        for _ in range(200):
            one = some_table(chance, 2, 2)
            other = some_table(chance, 2, 2)
            for _ in range(10):
                frame = tuple([tuple([chance.randint(0, 3) for _ in range(2)]) for _ in range(2)])
                check_call(self, is_along, (one, other, frame), plain_along(one, other, frame))
                check_call(self, is_not_behind, (one, other, frame), plain_behind(one, other, frame))
                if is_along(one, other, frame):
                    self.assertEqual(paces_compared(one, other), 0)
                if is_not_behind(one, other, frame):
                    self.assertLess(paces_compared(one, other), 1)

    def test_other_values(self):
        for value in ODD:
            self.assertIs(is_along(NEAR, FAR, value), False)
            self.assertIs(is_not_behind(NEAR, FAR, value), False)
        self.assertIs(is_along(RING, ONE, ((1,), (1,))), True)
        for value in [((1, 1),), ((1,), (2,)), ((True,), (1,)), ((1,), (True,)), [(1,), (1,)], ([1], (1,)), (1, 1)]:
            self.assertIs(is_along(RING, ONE, value), False)
            self.assertIs(is_not_behind(RING, ONE, value), False)


class Errors(unittest.TestCase):
    def test_wrong_values(self):
        for function in [along, not_behind]:
            check_wrong(self, function, (NEAR, FAR), [BAD_TABLE, BAD_TABLE])
        for judge in [is_along, is_not_behind]:
            for value in [FRAME, None]:
                check_wrong(self, lambda table, other: judge(table, other, value), (NEAR, FAR), [BAD_TABLE, BAD_TABLE])

    def check_all(self, error, table, other, told=None):
        """Each function raises this error, whatever the value is."""
        for call in [(along, table, other), (not_behind, table, other)] + [
                (judge, table, other, value) for judge in [is_along, is_not_behind] for value in [FRAME, None, 5, ((1,),)]]:
            found = check_state(self, error, *call)
            if told is not None:
                self.assertEqual((found.what, found.limit), told)

    def test_tables_that_fall_apart(self):
        for table in [((1, 0), (0, 1)), ((1, 1), (0, 1)), ((0,),), ((0,) * 7,) * 7, ((2000, 0), (0, 1))]:
            for other in [TWO, table, ((1,) * 7,) * 7, ((1000,),)]:
                self.check_all(NotTogether, table, other)
                self.check_all(NotTogether, other, table)

    def test_limits(self):
        wide, great = ((1,) * 7,) * 7, ((1000,),)
        for other in [TWO, wide, great]:
            self.check_all(TooMany, wide, other, ("places", 6))
            self.check_all(TooMany, other, wide, ("places", 6))
        for other in [TWO, great, ((999,) * 6,) * 6]:
            self.check_all(TooMany, great, other, ("size", 999))
            self.check_all(TooMany, other, great, ("size", 999))
        self.check_all(TooMany, ((1,) * 6,) * 5 + ((1,) * 5 + (1000,),), TWO, ("size", 999))


if __name__ == "__main__":
    unittest.main()
