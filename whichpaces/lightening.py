"""Weights times a mix above 0 are weights: here one with small enough integers is looked for."""

from whichpaces.fields import mix_product, mix_quotient, power_row

TOO_GREAT = (10 ** 50) ** 8
FIRST_STEP = 256


def greatest_of(weights):
    """The greatest integer, in size, of the weights."""
    return max([max(under, max([abs(number) for number in row])) for row, under in weights])


def lessened(least, weights, mix):
    """The weights, all divided by the mix."""
    return [mix_quotient(least, weight, mix) for weight in weights]


def raised(least, weights, mix):
    """The weights, all times the mix."""
    return [mix_product(least, weight, mix) for weight in weights]


def lightened(least, weights):
    """The weights, or, where these have too great integers, lighter ones in the same proportions."""
    if greatest_of(weights) < TOO_GREAT:
        return weights
    best = min([lessened(least, weights, weight) for weight in weights], key=greatest_of)
    step = FIRST_STEP
    # Long roads make powers of the number: these are shared between the first and the last places.
    while step and greatest_of(best) >= TOO_GREAT:
        power = (power_row(least, step), 1)
        better = min([raised(least, best, power), lessened(least, best, power)], key=greatest_of)
        if greatest_of(better) < greatest_of(best):
            best = better
        else:
            step //= 2
    return best
