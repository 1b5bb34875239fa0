"""Sums of the powers of a root of a least polynomial, reckoned with exactly.

A mix is a pair (row, under); a row has just as many numbers as the degree
of the least polynomial tells. Nothing is refused here.
"""

from math import gcd

from whichpaces.coefficients import content, divided, multiplied, trimmed
from whichpaces.equations import solved


def mix_of(row, under):
    """The mix of a row and an under that is not 0."""
    common = gcd(content(row), under)
    if under < 0:
        common = -common
    return tuple([number // common for number in row]), under // common


def filled(least, row):
    """The row with noughts behind it, as long as the degree."""
    return tuple(row) + (0,) * (len(least) - 1 - len(row))


def led_once(least, row):
    """The row of the mix times the root."""
    top = row[-1]
    lowered = [0] + list(row[:-1])
    return tuple([number - top * factor for number, factor in zip(lowered, least)])


def row_product(least, row, other):
    """The row of the product of two rows."""
    product = multiplied(trimmed(row), trimmed(other))
    _, rest = divided(product, least)
    return filled(least, rest)


def mix_sum(mix, other, sign):
    """The first mix and sign times the other one."""
    here, there = other[1], sign * mix[1]
    row = [number * here + more * there for number, more in zip(mix[0], other[0])]
    return mix_of(row, mix[1] * other[1])


def mix_product(least, mix, other):
    """The product of two mixes."""
    return mix_of(row_product(least, mix[0], other[0]), mix[1] * other[1])


def quotient_row(least, row, other):
    """The answer, (numbers, under), by which the other row, not 0, is multiplied to the row."""
    columns = [other]
    for _ in range(len(least) - 2):
        columns.append(led_once(least, columns[-1]))
    rows = [[column[place] for column in columns] + [number] for place, number in enumerate(row)]
    answers, under = solved(rows)
    return [answer[0] for answer in answers], under


def mix_quotient(least, mix, other):
    """The first mix divided by the other one, not 0."""
    numbers, under = quotient_row(least, mix[0], other[0])
    return mix_of([number * other[1] for number in numbers], under * mix[1])


def power_row(least, many):
    """The row of the root to a power from 0 on."""
    row = filled(least, (1,))
    for _ in range(many):
        row = led_once(least, row)
    return row
