"""The least parts of monic polynomials of any degree and size."""

from itertools import combinations
from math import isqrt

from whichpaces.berlekamp import parts_modulo
from whichpaces.coefficients import divided, multiplied, single
from whichpaces.lifting import centred, lifted_parts
from whichpaces.modular import lowered
from whichpaces.partdegrees import is_shown_least, told_by_primes


def modulus_for(whole, prime):
    """A power of the prime above twice the size of each number of each part."""
    squares = sum([number * number for number in whole])
    # No number of a part is above this, in size.
    bound = (isqrt(squares) + 1) << (len(whole) - 1)
    modulus = prime
    while modulus <= 2 * bound:
        modulus *= prime
    return modulus


def product_of(parts, chosen, modulus):
    """The product of the chosen parts, its numbers as near to 0 as the modulus lets them."""
    product = (1,)
    for place in chosen:
        product = centred(multiplied(product, parts[place]), modulus)
    return product


def chosen_parts(whole, parts, many, sums, modulus):
    """The places of so many parts whose product divides the whole; None if there are none."""
    for chosen in combinations(range(len(parts)), many):
        degree = sum([len(parts[place]) - 1 for place in chosen])
        if (sums >> degree) & 1:
            _, rest = divided(whole, product_of(parts, chosen, modulus))
            if not rest:
                return chosen
    return None


def put_together(whole, parts, sums, modulus):
    """The least parts of the whole, of which the parts are those modulo the modulus."""
    found = []
    many = 1
    while 2 * many <= len(parts):
        chosen = chosen_parts(whole, parts, many, sums, modulus)
        if chosen is None:
            many += 1
        else:
            found.append(product_of(parts, chosen, modulus))
            whole, _ = divided(whole, found[-1])
            parts = [part for place, part in enumerate(parts) if place not in chosen]
    return found + [whole]


def factors_of(whole):
    """The sorted list of the least parts of a monic row with unlike roots, of degree 1 or more."""
    prime, sums = told_by_primes(whole)
    if is_shown_least(whole, sums):
        return [whole]
    modulus = modulus_for(whole, prime)
    parts = parts_modulo(lowered(whole, prime), prime)
    return sorted(put_together(whole, lifted_parts(whole, parts, prime, modulus), sums, modulus))


def times_divided(whole, part):
    """How often the monic part divides the whole."""
    many = 0
    quotient, rest = divided(whole, part)
    while not rest:
        many += 1
        quotient, rest = divided(quotient, part)
    return many


def least_parts(whole):
    """The sorted list of the tuples (least part, how often) of a monic row of degree 1 or more."""
    return [(part, times_divided(whole, part)) for part in factors_of(single(whole))]


def is_least_row(whole):
    """Whether a monic row of degree 1 or more is least."""
    return len(single(whole)) == len(whole) and len(factors_of(whole)) == 1
