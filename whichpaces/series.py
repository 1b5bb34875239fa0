"""Sums of powers of t looked at up to a power alone: lists of as many integers as stay.

What is divided by begins with 1, so that only integers come.
"""


def series_less_product(series, one, other):
    """The series less the product of two others."""
    left = list(series)
    for power, number in enumerate(one):
        if number:
            for place in range(len(left) - power):
                left[power + place] -= number * other[place]
    return left


def series_times(one, other):
    """The product of two series."""
    product = series_less_product([0] * len(one), one, other)
    return [-number for number in product]


def series_over(one, other):
    """The first series divided by the other one, which begins with 1."""
    left = list(one)
    for power in range(len(left)):
        for place in range(1, len(left) - power):
            left[power + place] -= left[power] * other[place]
    return left


def without_first(rows):
    """The table left of a square table of series when its first row is taken off the others."""
    lead = rows[0]
    left = []
    for row in rows[1:]:
        factor = series_over(row[0], lead[0])
        left.append([series_less_product(number, factor, top) for number, top in zip(row[1:], lead[1:])])
    return left


def determinant(rows):
    """The determinant of a square table of series: those from corner to corner begin with 1, the others with 0."""
    total = [1] + [0] * (len(rows[0][0]) - 1)
    while rows:
        total = series_times(total, rows[0][0])
        rows = without_first(rows)
    return total
