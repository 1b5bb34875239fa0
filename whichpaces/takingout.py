"""The equations of a machine's weights, solved by taking out one place after the other.

What stands for a place is its row: x to the greatest length of a road from it,
less the sums of many times x to what is left of that, by place; all mixes.
"""

from whichpaces.fields import filled, mix_product, mix_quotient, mix_sum, power_row
from whichpaces.sights import row_sign


def equation_of(machine, place, least):
    """The row of a place that has roads."""
    _, places, roads = machine
    own = [road for road in roads if road[0] == place]
    top = max([length for _, _, length, _ in own])
    rows = [filled(least, ())] * places
    rows[place] = power_row(least, top)
    for _, other, length, many in own:
        power = power_row(least, top - length)
        rows[other] = tuple([number - many * factor for number, factor in zip(rows[other], power)])
    return [(row, 1) for row in rows]


def without_first(least, table):
    """The rows of the other places when the first one is taken out."""
    lead = table[0]
    left = []
    for row in table[1:]:
        if any(row[0][0]):
            factor = mix_quotient(least, row[0], lead[0])
            left.append([mix_sum(mix, mix_product(least, factor, top), -1) for mix, top in zip(row[1:], lead[1:])])
        else:
            left.append(row[1:])
    return left


def leads_of(sight, table):
    """The rows of the places as they are taken out, all but the last one; None unless the number is the pace."""
    leads = []
    while len(table) > 1:
        lead = table[0]
        # Of a number from the pace on, what is left of 1 is above 0 at all places but the last one.
        if row_sign(sight, lead[0][0]) <= 0:
            return None
        leads.append(lead)
        table = without_first(sight[0], table)
    if any(table[0][0][0]):
        return None
    return leads


def weights_by(least, leads):
    """The weights that the rows of the places taken out tell, that of the last place 1."""
    weights = [(filled(least, (1,)), 1)]
    for lead in reversed(leads):
        total = (filled(least, ()), 1)
        for mix, weight in zip(lead[1:], weights):
            total = mix_sum(total, mix_product(least, mix, weight), -1)
        weights = [mix_quotient(least, total, lead[0])] + weights
    return weights
