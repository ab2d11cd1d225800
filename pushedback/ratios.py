"""Reckoning with quotients that are known to be ones, so without a look at them."""

from math import gcd, lcm

from pushedback.powers import power

NOUGHT = (0, 1)
WHOLE = (1, 1)


def ratio(top, bottom):
    """The quotient for top by bottom; bottom is not 0."""
    shared = gcd(top, bottom)
    if bottom < 0:
        shared = -shared
    return top // shared, bottom // shared


def ratio_sum(one, other):
    """The sum of two quotients."""
    return ratio(one[0] * other[1] + other[0] * one[1], one[1] * other[1])


def ratio_less(one, other):
    """One quotient less the other."""
    return ratio(one[0] * other[1] - other[0] * one[1], one[1] * other[1])


def ratio_product(one, other):
    """The product of two quotients."""
    return ratio(one[0] * other[0], one[1] * other[1])


def ratio_by(one, other):
    """One quotient divided by the other, which is not nought."""
    return ratio(one[0] * other[1], one[1] * other[0])


def ratio_power(one, many):
    """A quotient to the power of a number; tops and bottoms stay without a common divisor."""
    return power(one[0], many), power(one[1], many)


def ratio_order(one, other):
    """-1, 0 or 1, as the one is below, equal to or above the other."""
    left = one[0] * other[1]
    right = other[0] * one[1]
    if left < right:
        return -1
    if left > right:
        return 1
    return 0


def ratio_total(quotients):
    """The sum of a row of quotients."""
    total = NOUGHT
    for one in quotients:
        total = ratio_sum(total, one)
    return total


def lowest_shares(quotients):
    """The lowest whole numbers of quotients, none below nought and not all nought."""
    bottom = 1
    for one in quotients:
        bottom = lcm(bottom, one[1])
    tops = [one[0] * (bottom // one[1]) for one in quotients]
    shared = 0
    for top in tops:
        shared = gcd(shared, top)
    return tuple([top // shared for top in tops])
