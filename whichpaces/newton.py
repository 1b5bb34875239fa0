"""Sums of the powers of the roots of monic polynomials, and polynomials told by them (Newton)."""

from math import comb


def power_sums(row, many):
    """The sums of the powers of the roots, from the power 0 to many."""
    degree = len(row) - 1
    sums = [degree]
    for power in range(1, many + 1):
        total = power * row[degree - power] if power <= degree else 0
        for place in range(1, min(power, degree + 1)):
            total += row[degree - place] * sums[power - place]
        sums.append(-total)
    return sums


def monic_of(sums):
    """The monic polynomial whose roots' powers have these sums, from the power 0 to its degree."""
    degree = len(sums) - 1
    row = [0] * degree + [1]
    for power in range(1, degree + 1):
        total = sums[power]
        for place in range(1, power):
            total += row[degree - place] * sums[power - place]
        row[degree - power] = -total // power
    return tuple(row)


def sums_of_pairs(row, other):
    """The monic polynomial whose roots are the sums of a root of each."""
    degree = (len(row) - 1) * (len(other) - 1)
    here = power_sums(row, degree)
    there = power_sums(other, degree)
    sums = []
    for power in range(degree + 1):
        sums.append(sum([comb(power, part) * here[part] * there[power - part] for part in range(power + 1)]))
    return monic_of(sums)


def products_of_pairs(row, other):
    """The monic polynomial whose roots are the products of a root of each."""
    degree = (len(row) - 1) * (len(other) - 1)
    here = power_sums(row, degree)
    there = power_sums(other, degree)
    return monic_of([one * two for one, two in zip(here, there)])


def powers_of_roots(row, many):
    """The monic polynomial whose roots are the powers of the roots."""
    degree = len(row) - 1
    return monic_of(power_sums(row, degree * many)[::many])
