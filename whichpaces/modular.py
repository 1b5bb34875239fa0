"""Polynomials modulo a prime: tuples of numbers from 0 to the prime less 1.

As elsewhere a nought is (), and no last one is 0.
"""

from whichpaces.coefficients import added, multiplied, negated, slope, trimmed


def lowered(row, prime):
    """The row modulo the prime."""
    return trimmed([number % prime for number in row])


def power_of(base, exponent, prime):
    """base to a power from 0 on, modulo the prime."""
    result = 1
    while exponent:
        if exponent & 1:
            result = result * base % prime
        base = base * base % prime
        exponent >>= 1
    return result


def made_monic(row, prime):
    """The row divided by its head, modulo the prime."""
    if not row:
        return ()
    turned = power_of(row[-1], prime - 2, prime)
    return lowered([number * turned for number in row], prime)


def divided_modulo(row, other, prime):
    """The quotient and the rest by another row than nought, modulo the prime."""
    turned = power_of(other[-1], prime - 2, prime)
    rest = list(row)
    quotient = []
    while len(rest) >= len(other):
        top = rest.pop() * turned % prime
        quotient.append(top)
        start = len(rest) - len(other) + 1
        for place in range(len(other) - 1):
            rest[start + place] = (rest[start + place] - top * other[place]) % prime
    return tuple(quotient[::-1]), trimmed(rest)


def rest_modulo(row, other, prime):
    """The rest by another row than nought, modulo the prime."""
    _, rest = divided_modulo(row, other, prime)
    return rest


def common_modulo(row, other, prime):
    """The monic common part of two rows modulo the prime."""
    while other:
        row, other = other, rest_modulo(row, other, prime)
    return made_monic(row, prime)


def times_modulo(row, other, whole, prime):
    """The rest of a product by the whole, modulo the prime."""
    return rest_modulo(lowered(multiplied(row, other), prime), whole, prime)


def raised_modulo(row, whole, prime):
    """The rest of the row to the power of the prime by the whole, modulo the prime."""
    result = (1,)
    exponent = prime
    while exponent:
        if exponent & 1:
            result = times_modulo(result, row, whole, prime)
        row = times_modulo(row, row, whole, prime)
        exponent >>= 1
    return result


def less_modulo(row, other, prime):
    """The first row less the other one, modulo the prime."""
    return lowered(added(row, negated(other)), prime)


def has_double_part(row, prime):
    """Whether the row, of degree 1 or more, has a double part modulo the prime."""
    return len(common_modulo(row, lowered(slope(row), prime), prime)) > 1


def factors_of_one(row, other, prime):
    """Rows s and t with s * row + t * other = 1 modulo the prime: no common part."""
    old, new = ((1,), ()), ((), (1,))
    while other:
        quotient, rest = divided_modulo(row, other, prime)
        old, new = new, (
            less_modulo(old[0], multiplied(quotient, new[0]), prime),
            less_modulo(old[1], multiplied(quotient, new[1]), prime),
        )
        row, other = other, rest
    turned = power_of(row[-1], prime - 2, prime)
    return scaled_modulo(old[0], turned, prime), scaled_modulo(old[1], turned, prime)


def scaled_modulo(row, number, prime):
    """The row times a number, modulo the prime."""
    return lowered([factor * number for factor in row], prime)
