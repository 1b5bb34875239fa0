"""Tables for the tests of two machines, and plain looks at their paces."""

from fractions import Fraction
from math import gcd

from helpers import worth


def together(table):
    """Whether the table hangs together: some power of it and lesser ones has no 0 left."""
    places = range(len(table))
    found = [[bool(many) for many in row] for row in table]
    for _ in places:
        found = [[found[one][other] or any([found[one][mid] and table[mid][other] for mid in places]) for other in places]
                 for one in places]
    return all([all(row) for row in found])


def some_table(chance, places, most, share=0.7):
    """A table that hangs together, with numbers up to most."""
    while True:
        table = tuple([tuple([chance.randint(0, most) if chance.random() < share else 0 for _ in range(places)])
                       for _ in range(places)])
        if together(table):
            return table


def exchanged(table, places):
    """The table with its places in another sequence."""
    return tuple([tuple([table[one][other] for other in places]) for one in places])


def about(table):
    """The table turned about."""
    return tuple(zip(*table))


def product(rows, lines):
    """The product of two tables, told plainly."""
    return tuple([tuple([sum([row[at] * lines[at][other] for at in range(len(lines))]) for other in range(len(lines[0]))])
                  for row in rows])


def own(table):
    """The determinant of t less the table, by the traces of its powers (Newton)."""
    sums, power = [], table
    for _ in table:
        sums.append(sum([power[at][at] for at in range(len(table))]))
        power = product(power, table)
    row = [1]
    for count in range(1, len(table) + 1):
        total = sum([row[count - step] * sums[step - 1] for step in range(1, count + 1)])
        row.append(-total // count)
    return tuple(row[::-1])


def plain_pace(table, bits=200):
    """The greatest real root of the own polynomial, 2 ** bits times it, at most 1 less: by slopes from far above."""
    row = own(table)
    slopes = tuple([power * number for power, number in enumerate(row) if power])
    found = Fraction(max([sum(line) for line in table]) + 1)
    # From above all roots each step stays above the greatest one.
    for _ in range(4000):
        step = worth(row, found) / worth(slopes, found)
        closer = Fraction(-((step - found) * 2 ** (bits + 20) // 1), 2 ** (bits + 20))
        if found - closer < Fraction(1, 2 ** (bits + 8)):
            break
        found = closer
    return found * 2 ** bits // 1


def table_beat(table):
    """The greatest number that divides the lengths of all rounds: those without a place twice are enough."""
    places = range(len(table))
    common = 0
    found = [[bool(many) for many in row] for row in table]
    for length in range(1, len(table) + 1):
        if any([found[place][place] for place in places]):
            common = gcd(common, length)
        found = [[any([found[one][mid] and table[mid][other] for mid in places]) for other in places] for one in places]
    return common
