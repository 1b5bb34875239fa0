"""The parts of a monic row modulo a prime (Berlekamp)."""

from whichpaces.modular import common_modulo, less_modulo, made_monic, power_of, raised_modulo
from whichpaces.modular import rest_modulo, scaled_modulo, times_modulo


def led_down(shown, source, leads, prime):
    """What is left of a pair behind the pairs of leads, by the length of the first one."""
    while len(shown) in leads:
        lead, lead_source = leads[len(shown)]
        top = shown[-1]
        shown = less_modulo(shown, scaled_modulo(lead, top, prime), prime)
        source = less_modulo(source, scaled_modulo(lead_source, top, prime), prime)
    return shown, source


def fixed_rows(whole, prime):
    """A basis of the rows that leave themselves when raised to the power of the prime."""
    fixed = []
    leads = {}
    step = raised_modulo(rest_modulo((0, 1), whole, prime), whole, prime)
    raised = (1,)
    for power in range(len(whole) - 1):
        source = (0,) * power + (1,)
        shown, source = led_down(less_modulo(raised, source, prime), source, leads, prime)
        if shown:
            turned = power_of(shown[-1], prime - 2, prime)
            leads[len(shown)] = (made_monic(shown, prime), scaled_modulo(source, turned, prime))
        else:
            fixed.append(source)
        raised = times_modulo(raised, step, whole, prime)
    return fixed


def split_by(parts, fixed, prime):
    """The parts, each split by the numbers that the fixed row leaves there."""
    found = []
    for part in parts:
        for number in range(prime):
            shared = common_modulo(part, less_modulo(fixed, (number,), prime), prime)
            if len(shared) > 1:
                found.append(shared)
    return found


def parts_modulo(whole, prime):
    """The sorted list of the parts of a monic row modulo the prime: none is double."""
    parts = [whole]
    basis = fixed_rows(whole, prime)
    for fixed in basis:
        if len(parts) < len(basis):
            parts = split_by(parts, fixed, prime)
    return sorted(parts)
