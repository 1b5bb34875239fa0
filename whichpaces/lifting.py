"""Parts modulo a prime lifted to a power of it (Hensel)."""

from whichpaces.coefficients import added, multiplied, negated, scaled
from whichpaces.modular import factors_of_one, lowered, rest_modulo


def lifted_pair(whole, first, second, prime, modulus):
    """Two monic rows whose product is the whole, led from modulo the prime to the modulus."""
    for_first, for_second = factors_of_one(first, second, prime)
    new_first, new_second = first, second
    scale = prime
    while scale < modulus:
        missing = added(whole, negated(multiplied(new_first, new_second)))
        missing = lowered([number // scale for number in missing], prime)
        more_first = rest_modulo(lowered(multiplied(missing, for_second), prime), first, prime)
        more_second = rest_modulo(lowered(multiplied(missing, for_first), prime), second, prime)
        new_first = added(new_first, scaled(more_first, scale))
        new_second = added(new_second, scaled(more_second, scale))
        scale *= prime
    return new_first, new_second


def lifted_parts(whole, parts, prime, modulus):
    """The parts, led from modulo the prime to the modulus, a power of it."""
    lifted = []
    for place in range(len(parts) - 1):
        others = (1,)
        for part in parts[place + 1:]:
            others = lowered(multiplied(others, part), prime)
        first, whole = lifted_pair(whole, parts[place], others, prime, modulus)
        lifted.append(first)
    return lifted + [whole]


def centred(row, modulus):
    """The row modulo the modulus, each number as near to 0 as it can be."""
    half = modulus // 2
    return tuple([(number + half) % modulus - half for number in row])
