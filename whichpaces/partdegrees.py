"""The degrees of a monic row's parts modulo primes, and what they tell."""

from whichpaces.modular import common_modulo, divided_modulo, has_double_part, less_modulo, lowered
from whichpaces.modular import raised_modulo, rest_modulo

WANTED_PRIMES = 5


def part_degrees(whole, prime):
    """The sorted list of the degrees of the parts; None if there is a double one."""
    row = lowered(whole, prime)
    if has_double_part(row, prime):
        return None
    degrees = []
    degree = 0
    power = rest_modulo((0, 1), row, prime)
    while len(row) > 1:
        degree += 1
        if 2 * degree >= len(row):
            return degrees + [len(row) - 1]
        # The parts whose degree divides this one are those of t ** (prime ** degree) - t.
        power = raised_modulo(power, row, prime)
        shared = common_modulo(row, less_modulo(power, (0, 1), prime), prime)
        degrees.extend([degree] * ((len(shared) - 1) // degree))
        row, _ = divided_modulo(row, shared, prime)
        power = rest_modulo(power, row, prime)
    return degrees


def sums_of(degrees):
    """The sums of all lots of the degrees: the bit at each sum is set."""
    sums = 1
    for degree in degrees:
        sums |= sums << degree
    return sums


def is_prime(number):
    """Whether a number from 2 on is a prime."""
    divisor = 2
    while divisor * divisor <= number:
        if number % divisor == 0:
            return False
        divisor += 1
    return True


def next_prime(number):
    """The least prime above a number from 1 on."""
    number += 1
    while not is_prime(number):
        number += 1
    return number


def is_shown_least(whole, sums):
    """Whether the sums leave no degree for a product of two."""
    return sums == 1 + (1 << (len(whole) - 1))


def told_by_primes(whole):
    """A prime with few parts, none of them double, and the sums that all tried primes leave.

    The whole is monic, of degree 1 or more, with unlike roots alone.
    """
    sums = (1 << len(whole)) - 1
    tried = 0
    best = fewest = prime = 1
    while tried < WANTED_PRIMES and not is_shown_least(whole, sums):
        prime = next_prime(prime)
        degrees = part_degrees(whole, prime)
        if degrees is None:
            continue
        sums &= sums_of(degrees)
        if tried == 0 or len(degrees) < fewest:
            best, fewest = prime, len(degrees)
        tried += 1
    return best, sums
