"""What the tests share: wrong values, checks of refusals, plain reckoning beside the program."""

import copy
from fractions import Fraction
from math import gcd

from whichpaces.errors import InvalidCone, InvalidInteger, InvalidMachine, InvalidMany, InvalidMix, InvalidNumber
from whichpaces.errors import InvalidPlace, InvalidPolynomial, InvalidPosition, InvalidRatio, InvalidRounds, InvalidRow
from whichpaces.errors import InvalidTable

NO_INTEGERS = [True, False, None, "3", "", b"3", (3,), [3], {}, {3: 3}, int, object()]
NO_COUNTS = NO_INTEGERS + [-1, -10 ** 40]
NO_RATIOS = [
    True, False, None, 3, 0, "1/2", b"12", [1, 2], [], (), (1,), (1, 2, 3), (2, 4), (0, 2), (0, 0), (1, 0),
    (1, -2), (-1, -2), (0, -1), (True, 1), (1, True), (False, 1), ("1", 1), (1, "1"), (1, None), (None, 1),
    ((1, 1), 1), ([1], 1), (1, [1]), {1: 2}, object(), (6 * 10 ** 39, 4),
]
NO_POLYNOMIALS = [
    True, False, None, 3, 0, "12", "", b"\x01", [1, 1], [], {}, (0,), (1, 0), (0, 0, 0), (1, 2, 0), (True,),
    (1, True), (False, 1), (1, False, 1), ("1",), (1, "1"), (None, 1), (1, None), ((1,), 1), (1, [1]), ([], 1),
    (10 ** 6 + 1,), (-10 ** 6 - 1, 1), (1, 10 ** 6 + 1), (1, 10 ** 30, 1), (1,) * 14, (0,) * 13 + (1,),
    (1,) * 400, object(), ("number", (-1, 1), 0),
]
NO_NUMBERS = [
    True, None, 3, "number", (), [], object(), (-1, 1), {"number": 1}, ("number",), ("number", (-1, 1)),
    ["number", (-1, 1), 0], ("number", (-1, 1), 0, 0), ("Number", (-1, 1), 0), (b"number", (-1, 1), 0),
    (True, (-1, 1), 0), (None, (-1, 1), 0), (("number",), (-1, 1), 0), ("number", [-1, 1], 0),
    ("number", (-1, 1), 1), ("number", (-1, 1), -1), ("number", (-1, 1), True), ("number", (-1, 1), False),
    ("number", (-1, 1), None), ("number", (-1, 1), "0"), ("number", (-1, 1), (0,)), ("number", (-1, True), 0),
    ("number", (True, 1), 0), ("number", (-1, 2), 0), ("number", (1, -1), 0), ("number", (), 0),
    ("number", (1,), 0), ("number", (0, 1), 0), ("number", (1, 1), 0), ("number", (-1, 0, 1), 0),
    ("number", (1, -2, 1), 0), ("number", (1, 0, 1), 0), ("number", (-2, 0, 1), 1), ("number", (-2, 0, 1), 2),
    ("number", (-10000, 1), 0), ("number", (-2, 10000, 1), 0), ("number", (-2, 0, 0, 0, 0, 0, 0, 1), 0),
    ("number", (1, 0, -10, 0, 1), 2), ("number", (4, 0, -5, 0, 1), 0), ("number", "-1 1", 0), ("number", None, 0),
    ("number", 5, 0), ("number", (-1, None), 0), ("number", (-1, 1, 0), 0),
]
NO_ROADS = [
    True, None, 5, "roads", {}, object(), [], [(0, 0, 1, 1)], ((),), ((0, 0, 1),), ((0, 0, 1, 1, 1),), (0, 0, 1, 1),
    ([0, 0, 1, 1],), ("0011",), (None,), (5,), ((0, 0, 1, 1), None), ((0, 0, 1, 1), (0, 0, 1, 1)),
    ((0, 0, 1, 1), (0, 0, 1, 2)), ((0, 0, 2, 1), (0, 0, 1, 1)), ((0, 1, 1, 1), (0, 0, 2, 1)),
    ((1, 0, 1, 1), (0, 1, 1, 1)), ((0, 0, 1, 1), (0, 1, 1, 1), (0, 0, 2, 1)), ((2, 0, 1, 1),), ((0, 2, 1, 1),),
    ((-1, 0, 1, 1),), ((0, -1, 1, 1),), ((0, 0, 0, 1),), ((0, 0, -1, 1),), ((0, 0, 401, 1),), ((0, 0, 1, 0),),
    ((0, 0, 1, -1),), ((0, 0, 1, (10 ** 50) ** 8),), ((False, 0, 1, 1),), ((0, False, 1, 1),), ((0, 0, True, 1),),
    ((0, 0, 1, True),), ((0, True, 1, 1),), ((None, 0, 1, 1),), ((0, "0", 1, 1),), ((0, 0, "1", 1),),
    ((0, 0, 1, None),), ((0, 0, (1,), 1),), ((0, 0, 1, [1]),), ((0, 0, 1, 1), (0, 1, 1, 0)),
    tuple([(0, 0, length, 1) for length in range(1, 62)]),
]
NO_MACHINES = [("machine", 2, roads) for roads in NO_ROADS] + [
    True, False, None, 3, 0, "machine", b"machine", (), [], {}, object(), ("machine",), ("machine", 1),
    ["machine", 1, ((0, 0, 1, 1),)], ("machine", 1, ((0, 0, 1, 1),), 0), ("Machine", 1, ((0, 0, 1, 1),)),
    (b"machine", 1, ((0, 0, 1, 1),)), (None, 1, ()), (("machine",), 1, ()), (1, ((0, 0, 1, 1),)), ("table", 1, ()),
    ("machine", 0, ()), ("machine", -1, ()), ("machine", 13, ()), ("machine", True, ()), ("machine", None, ()),
    ("machine", "1", ()), ("machine", (1,), ()), ("machine", 1, ((0, 1, 1, 1),)), ("machine", 1, ((1, 0, 1, 1),)),
    ("machine", 12, ((12, 0, 1, 1),)), ("machine", 10 ** 30, ()), ((1,),), ("number", (-1, 1), 0),
]
NO_TABLES = [
    True, False, None, 3, 0, "table", "", b"1", (), [], {}, object(), [[1]], [(1,)], ([1],), ((1, 2),), ((1,), (2,)),
    ((),), ((1, 1), (1,)), ((1,), (1, 1)), ((1, 1), [1, 1]), ((1, 1), (1, -1)), ((-1,),), ((True,),), ((False,),),
    ((1, 1), (1, True)), ((None,),), (("1",),), (((1,),),), (([],),), ((10 ** 6 + 1,),), ((0, 0), (0, 10 ** 30)),
    (1,), (1, 1), ("1",), ("12", "34"), ({1: 1},), ((1, 1), None), ((0,) * 13,) * 13, ((0,) * 12,) * 13,
    ((0,) * 13,) * 12, ((0,) * 12,) * 11, ("machine", 1, ()), {(1,): 1},
]
NO_ROUNDS = [
    None, True, False, 0, 5, "rounds", b"1", (), [], {}, object(), int, (1, 1), ((1,),), ((1, 1, 1),), ((),), [(1, 1)],
    ([1, 1],), ((1, 1), [2, 1]), ((2, 1), (1, 1)), ((1, 1), (1, 1)), ((1, 1), (1, 2)), ((1, 2), (2, 1), (2, 2)),
    ((1, 1), (3, 1), (2, 1)), ((0, 1),), ((-1, 1),), ((401, 1),), ((1, 1), (401, 1)), ((10 ** 30, 1),), ((1, 0),), ((1, -1),),
    ((1, 1), (2, 0)), ((1, (10 ** 50) ** 8),), ((1, 1), (2, (10 ** 50) ** 8)), ((True, 1),), ((1, True),), ((1, False),), ((False, 1),),
    ((1, 1), (2, True)), (("1", 1),), ((1, "1"),), ((None, 1),), ((1, None),), (((1,), 1),), ((1, (1,)),), ((1, 1), None),
    ((1, 1), 2), ("11",), ({1: 1},), {(1, 1): 1}, tuple([(length, 1) for length in range(1, 62)]), ("rounds", ((1, 1),)),
    ("machine", 1, ((0, 0, 1, 1),)), ("hub", ((1, 1),)), (((1, 1),),),
]
BAD_INTEGER = (InvalidInteger, NO_INTEGERS)
BAD_DIVISOR = (InvalidInteger, NO_INTEGERS + [0])
BAD_RATIO = (InvalidRatio, NO_RATIOS)
BAD_POLYNOMIAL = (InvalidPolynomial, NO_POLYNOMIALS)
BAD_NUMBER = (InvalidNumber, NO_NUMBERS)
BAD_MACHINE = (InvalidMachine, NO_MACHINES)
BAD_TABLE = (InvalidTable, NO_TABLES)
BAD_ROUNDS = (InvalidRounds, NO_ROUNDS)


def bad_many(most, least=0):
    """Wrong values for a many from least to most."""
    return InvalidMany, NO_COUNTS + [least - 1, most + 1, 10 ** 40]


def bad_place(bound):
    """Wrong values for a place below the bound."""
    return InvalidPlace, NO_COUNTS + [bound, bound + 1, 10 ** 40]


def bad_position(bound):
    """Wrong values for a position below the bound."""
    return InvalidPosition, NO_COUNTS + [bound, bound + 1, 10 ** 40]


def bad_row(degree):
    """Wrong values for a list of as many INTEGERS as the degree."""
    right = [1] * degree
    wrong = [None, True, 3, "1" * degree, b"1" * degree, {1: 1}, object(), [], (), right + [1], right[1:]]
    wrong += [[True] + right[1:], right[1:] + [False], (None,) + (1,) * (degree - 1), right[1:] + ["1"]]
    return InvalidRow, wrong + [right[1:] + [[1]], [(1,)] + right[1:]]


def bad_mix(degree):
    """Wrong values for a MIX of a number of the degree."""
    one = (1,) + (0,) * (degree - 1)
    none = (0,) * degree
    wrong = [None, True, 1, "mix", (), [], object(), one, (one,), (one, 1, 1), [one, 1], (list(one), 1), (1, one)]
    wrong += [(one + (0,), 1), (one[1:], 1), ((), 1), (one, 0), (one, -1), (none, 2), (none, 0), (none, -1)]
    wrong += [((2,) + one[1:], 2), ((6,) + one[1:], 4), (one, True), ((True,) + one[1:], 1), (one, None)]
    wrong += [(one[1:] + (False,), 1), (one, "1"), (("1",) + one[1:], 1), ((None,) + one[1:], 1), (one, (1,))]
    return InvalidMix, wrong + [(((1,),) + one[1:], 1), ((one, 1), 1), ("1" * degree, 1)]


def check_refused(test, error, value, function, *args):
    """The call raises just this class of error, with the value that was passed."""
    with test.assertRaises(error, msg=(function, args)) as caught:
        function(*args)
    test.assertIs(type(caught.exception), error)
    test.assertIs(caught.exception.value, value)


def check_wrong(test, function, right, bad):
    """Each parameter is refused for each wrong value, also where wrong ones stand behind it."""
    test.assertEqual(len(right), len(bad))
    for place, (error, values) in enumerate(bad):
        for value in values:
            ahead = list(right[:place])
            behind = list(right[place + 1:])
            check_refused(test, error, value, function, *ahead, value, *behind)
            wrong = [values_behind[0] for _, values_behind in bad[place + 1:]]
            check_refused(test, error, value, function, *ahead, value, *wrong)


def check_state(test, error, function, *args):
    """The call raises just this class of error."""
    with test.assertRaises(error, msg=(function, args)) as caught:
        function(*args)
    test.assertIs(type(caught.exception), error)
    return caught.exception


def kinds_of(value):
    """The value with each integer, string and so on replaced by the name of its class."""
    if isinstance(value, (list, tuple)):
        return type(value)([kinds_of(item) for item in value])
    return type(value).__name__


def check_call(test, function, args, expected):
    """The call returns what is expected, of the same kinds, twice, and changes nothing passed."""
    kept = copy.deepcopy(args)
    first = function(*args)
    test.assertEqual(first, expected, (function, args))
    test.assertEqual(kinds_of(first), kinds_of(expected), (function, args))
    test.assertEqual(kinds_of(args), kinds_of(kept))
    test.assertEqual(args, kept)
    if isinstance(first, list):
        first.append("more")
        first.reverse()
    second = function(*args)
    test.assertEqual(second, expected, (function, args))
    test.assertEqual(kinds_of(second), kinds_of(expected))


def times(*rows):
    """The product of polynomials, told plainly."""
    total = {0: 1}
    for row in rows:
        found = {}
        for power, number in total.items():
            for more, factor in enumerate(row):
                found[power + more] = found.get(power + more, 0) + number * factor
        total = found
    top = max([power for power, number in total.items() if number], default=-1)
    return tuple([total.get(power, 0) for power in range(top + 1)])


def worth(row, number):
    """The worth of a polynomial at a Fraction or an int."""
    total = 0
    for factor in reversed(row):
        total = total * number + factor
    return total


def ratio(number, under=1):
    """A Fraction as a RATIO."""
    told = Fraction(number, under)
    return told.numerator, told.denominator


def divisor_of(numbers):
    """The greatest number that divides all."""
    common = 0
    for number in numbers:
        common = gcd(common, number)
    return common


def real_roots(row):
    """The unlike real roots of a polynomial of degree 1 or more as floats, the greatest one first."""
    if len(row) == 2:
        return [-row[0] / row[1]]
    # Between two roots of the slope there is one root at most.
    bound = 2 + max([abs(number) for number in row]) // abs(row[-1])
    turns = real_roots(tuple([power * number for power, number in enumerate(row) if power]))
    ends = [bound] + [Fraction(turn) for turn in turns] + [-bound]
    found = []
    for high, low in zip(ends, ends[1:]):
        above, below = worth(row, high), worth(row, low)
        if above * below < 0:
            for _ in range(70):
                middle = Fraction(high + low) / 2
                if worth(row, middle) * above > 0:
                    high = middle
                else:
                    low = middle
            found.append(float(high))
    return found


def machine_with(places, roads):
    """The machine of places and of a dict of many by (one, other, length)."""
    return "machine", places, tuple(sorted([road + (many,) for road, many in roads.items()]))


def some_machine(chance, places, roads, length=3, many=3):
    """A machine with at most so many roads, of at most this length and many."""
    found = {}
    for _ in range(roads):
        road = chance.randrange(places), chance.randrange(places), chance.randint(1, length)
        found[road] = chance.randint(1, many)
    return machine_with(places, found)


def some_together(chance, places, roads, length=3, many=3):
    """A machine that hangs together: a round through all places, and further roads."""
    found = {(place, (place + 1) % places, chance.randint(1, length)): chance.randint(1, many)
             for place in range(places)}
    _, _, more = some_machine(chance, places, roads, length, many)
    for one, other, taken, often in more:
        found[(one, other, taken)] = often
    return machine_with(places, found)


def plain_rounds(machine):
    """The rounds in which no place comes twice: tuples (places, length, many), begun at the least place."""
    _, places, roads = machine
    found = []

    def go_on(way, length, many):
        for one, other, taken, often in roads:
            if one == way[-1]:
                if other == way[0]:
                    found.append((tuple(way), length + taken, many * often))
                elif other > way[0] and other not in way:
                    go_on(way + [other], length + taken, many * often)

    for start in range(places):
        go_on([start], 0, 1)
    return found


def plain_ways(machine, place, length):
    """How many ways of the length begin at the place, by the place where they end, each way followed."""
    counts = [0] * machine[1]
    if length == 0:
        counts[place] = 1
        return counts
    for one, other, taken, many in machine[2]:
        if one == place and taken <= length:
            for end, often in enumerate(plain_ways(machine, other, length - taken)):
                counts[end] += many * often
    return counts


def greatest_lengths(machine):
    """The sum over all places of the greatest length of a road from it."""
    return sum([max([length for one, _, length, _ in machine[2] if one == place], default=0)
                for place in range(machine[1])])


def lots_without(rounds):
    """All lots of the rounds in which no place comes twice."""
    if not rounds:
        return [[]]
    first = rounds[0]
    apart = [told for told in rounds[1:] if not [place for place in told[0] if place in first[0]]]
    return lots_without(rounds[1:]) + [[first] + lot for lot in lots_without(apart)]


def plain_polynomial(machine):
    """The sum over all lots of rounds in which no place comes twice."""
    total = {}
    for lot in lots_without(plain_rounds(machine)):
        factor, power = 1, 0
        for _, length, many in lot:
            factor *= -many
            power += length
        total[power] = total.get(power, 0) + factor
    top = max([power for power, number in total.items() if number])
    return tuple([total.get(power, 0) for power in range(top + 1)])


def all_roots(row):
    """The roots of a monic polynomial without double ones as complex floats, each once."""
    bound = 1 + max([abs(number) for number in row])
    roots = [bound ** (1 / (len(row) - 1)) * (0.4 + 0.9j) ** place for place in range(1, len(row))]
    for _ in range(500):
        moved = []
        for place, root in enumerate(roots):
            under = 1
            for other in roots[:place] + roots[place + 1:]:
                under *= root - other
            moved.append(root - worth(row, root) / under)
        roots = moved
    return roots


def bad_told_row(degree):
    """Wrong values for a row of a number of the degree: a tuple of INTEGERS."""
    error, wrong = bad_row(degree)
    return error, wrong + [[1] * degree]


def bad_cone(cone):
    """Wrong values for a cone of a number, made of a right one."""
    row = cone[0]
    more = [tuple([-number for number in row])] + list(cone[1:])
    wrong = [None, True, 1, "cone", (), [], {}, object(), list(cone), cone + cone[:1], cone[1:], (row,) + cone]
    wrong += [(list(row),) + cone[1:], (row + (0,),) + cone[1:], (row[1:],) + cone[1:], (None,) + cone[1:]]
    wrong += [tuple(more), (tuple([2 * number for number in row]),) + cone[1:], ((0,) * len(row),) + cone[1:]]
    wrong += [cone[:-1] + (("1",) * len(row),), cone[:-1] + ((None,) * len(row),), cone[:-1] + (5,)]
    wrong += [tuple([tuple([bool(number) if number == 1 else number for number in line]) for line in cone])] \
        if any([1 in line for line in cone]) else []
    if len(cone) > 1:
        wrong += [(row,) * len(cone), cone[:-1] + (row,)]
    return InvalidCone, wrong
