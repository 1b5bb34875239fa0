"""Polynomials as tuples of integers of any size, from the power 0 on.

Nothing is refused here: what the package reckons on the way may be longer
and greater than what may be passed. A nought is (), and no last one is 0.
"""

from math import gcd


def sign_of(number):
    """-1, 0 or 1."""
    return (number > 0) - (number < 0)


def trimmed(row):
    """The row as a tuple, without the noughts at its end."""
    length = len(row)
    while length and row[length - 1] == 0:
        length -= 1
    return tuple(row[:length])


def added(row, other):
    """The sum of two rows."""
    if len(row) < len(other):
        return added(other, row)
    total = list(row)
    for power, number in enumerate(other):
        total[power] += number
    return trimmed(total)


def negated(row):
    """The row with each sign turned."""
    return tuple([-number for number in row])


def scaled(row, number):
    """The row times a number."""
    return trimmed([factor * number for factor in row])


def multiplied(row, other):
    """The product of two rows."""
    if not row or not other:
        return ()
    total = [0] * (len(row) + len(other) - 1)
    for power, number in enumerate(row):
        if number:
            for place, factor in enumerate(other):
                total[power + place] += number * factor
    return tuple(total)


def slope(row):
    """The slope of a row."""
    return tuple([power * number for power, number in enumerate(row) if power])


def worth_times(row, number, under):
    """The worth at number / under, times under to the power of the degree."""
    worth = 0
    scale = 1
    for factor in reversed(row):
        worth = worth * number + factor * scale
        scale *= under
    return worth


def stretched(row, number, under):
    """The row with number * t / under for t, times under to the power of the degree."""
    total = list(row)
    scale = 1
    for power in range(len(row)):
        total[power] *= scale
        scale *= number
    scale = 1
    for power in reversed(range(len(row))):
        total[power] *= scale
        scale *= under
    return tuple(total)


def spread(row, many):
    """The row with t ** many in the place of t."""
    wide = [0] * ((len(row) - 1) * many + 1)
    for power, number in enumerate(row):
        wide[power * many] = number
    return tuple(wide)


def divided(row, other):
    """The quotient and the rest by another row, whose head divides each head on the way."""
    rest = list(row)
    quotient = []
    while len(rest) >= len(other):
        top = rest.pop() // other[-1]
        quotient.append(top)
        start = len(rest) - len(other) + 1
        for place in range(len(other) - 1):
            rest[start + place] -= top * other[place]
    return tuple(quotient[::-1]), trimmed(rest)


def content(row):
    """The greatest number that divides the whole row, 0 of nought."""
    common = 0
    for number in row:
        common = gcd(common, number)
    return common


def reduced(row):
    """The row divided by its content: each sign stays."""
    common = content(row)
    if common < 2:
        return tuple(row)
    return tuple([number // common for number in row])


def bare(row):
    """The bare one of a row."""
    if row and row[-1] < 0:
        return reduced(negated(row))
    return reduced(row)


def kept_rest(row, other):
    """The rest of a row by another one than nought, times some number above 0."""
    rest = list(row)
    while len(rest) >= len(other):
        top = rest[-1]
        common = gcd(top, other[-1])
        factor = abs(other[-1]) // common
        taken = top // common * sign_of(other[-1])
        rest = [factor * number for number in rest]
        start = len(rest) - len(other)
        for place, number in enumerate(other):
            rest[start + place] -= taken * number
        rest = list(trimmed(rest))
    return reduced(rest)


def signed_rests(row, other):
    """Both rows, then the rests of each two, each with the other sign, without nought."""
    rows = [row]
    while other:
        rows.append(other)
        other = negated(kept_rest(rows[-2], other))
    return rows


def common_part(row, other):
    """The common part of two rows."""
    while other:
        row, other = other, kept_rest(row, other)
    return bare(row)


def single(row):
    """The bare row with just the roots of this one, each once."""
    if not row:
        return ()
    whole = bare(row)
    quotient, _ = divided(whole, common_part(whole, slope(whole)))
    return quotient
