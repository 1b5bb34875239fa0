"""Roots counted within a ring, on it and beyond it, by whole numbers alone.

The inside of the ring is laid on the half of the plane above the real
numbers; there the roots are counted by changes of signs.
"""

from whichpaces.coefficients import added, common_part, negated, reduced, scaled, signed_rests
from whichpaces.coefficients import slope, stretched
from whichpaces.sturm import changes_far_above, changes_far_below, root_bound, roots_in_all, sturm_row


def times_t_and_i(pair):
    """A polynomial, real + i imaginary, times t + i."""
    real, imaginary = pair
    return added((0,) + real, negated(imaginary)), added((0,) + imaginary, real)


def times_t_less_i(pair):
    """A polynomial, real + i imaginary, times t - i."""
    real, imaginary = pair
    return added((0,) + real, imaginary), added((0,) + imaginary, negated(real))


def on_half_planes(row):
    """The row with (t - i) / (t + i) for t, times t + i to the degree: real and imaginary."""
    total = ((row[-1],), ())
    power = ((1,), ())
    for number in reversed(row[:-1]):
        total = times_t_less_i(total)
        power = times_t_and_i(power)
        total = added(total[0], scaled(power[0], number)), added(total[1], scaled(power[1], number))
    return total


def real_roots_with_repeats(row):
    """How many real roots there are, each as often as it stands."""
    many = 0
    while len(row) > 1:
        many += roots_in_all(sturm_row(row))
        row = common_part(row, slope(row))
    return many


def rests_of(real, imaginary):
    """The row of rests that tells where the roots of real + i imaginary lie."""
    if len(real) > len(imaginary):
        return signed_rests(real, imaginary)
    return signed_rests(imaginary, negated(real))


def ring_counts(row, number, under):
    """How many roots lie within, on and beyond the ring of number / under."""
    real, imaginary = on_half_planes(reduced(stretched(row, number, under)))
    longest = max(len(real), len(imaginary))
    # The root number / under itself has no place among the real numbers: it is far away.
    far_away = len(row) - longest
    # What both share divides each of the rests: it changes no count of changes of signs.
    rows = rests_of(real, imaginary)
    more_beyond = changes_far_below(rows) - changes_far_above(rows)
    shared = rows[-1]
    on_line = real_roots_with_repeats(shared)
    # What is shared and not real stands in pairs, one within and one beyond.
    pairs = (len(shared) - 1 - on_line) // 2
    left = longest - len(shared)
    within = pairs + (left - more_beyond) // 2
    beyond = pairs + (left + more_beyond) // 2
    return within, far_away + on_line, beyond


def reaches(row, number, under):
    """Whether some root lies on or beyond the ring of number / under."""
    within, _, _ = ring_counts(row, number, under)
    return within < len(row) - 1


def without_roots_at_nought(row):
    """The row divided by t as often as t divides it."""
    start = 0
    while row[start] == 0:
        start += 1
    return row[start:]


def greatest_size_floor(polynomial, many):
    """The size floor of a polynomial of degree 1 or more."""
    row = without_roots_at_nought(polynomial)
    if len(row) == 1:
        return 0
    low = 0
    high = root_bound(row)
    while high - low > 1:
        middle = (low + high) // 2
        if reaches(row, middle, 1):
            low = middle
        else:
            high = middle
    under = 1
    # One place more at a time: the numbers stay as short as they can.
    for _ in range(many):
        under *= 2
        low *= 2
        if reaches(row, low + 1, under):
            low += 1
    return low
