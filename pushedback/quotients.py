"""Exact reckoning with quotients."""

from pushedback.guards import need
from pushedback.kinds import is_number, is_quotient
from pushedback.ratios import (
    lowest_shares, ratio_by, ratio_less, ratio_order, ratio_power, ratio_product, ratio_sum, ratio_total,
)


def need_both(one, other):
    """Refuse two parameters unless both are quotients."""
    need(is_quotient(one), "one")
    need(is_quotient(other), "other")


def is_quotients(thing):
    """Whether the thing is a tuple of quotients."""
    return isinstance(thing, tuple) and all([is_quotient(part) for part in thing])


def plus(one, other):
    """The sum."""
    need_both(one, other)
    return ratio_sum(one, other)


def minus(one, other):
    """One less other."""
    need_both(one, other)
    return ratio_less(one, other)


def times(one, other):
    """The product."""
    need_both(one, other)
    return ratio_product(one, other)


def over(one, other):
    """One divided by other, which is not nought."""
    need_both(one, other)
    need(other[0] != 0, "other")
    return ratio_by(one, other)


def raised(one, many):
    """One to the power many."""
    need(is_quotient(one), "one")
    need(is_number(many), "many")
    return ratio_power(one, many)


def compare(one, other):
    """-1, 0, 1 if one is below, equal to, above other."""
    need_both(one, other)
    return ratio_order(one, other)


def least_whole(one):
    """The least integer that is not below one."""
    need(is_quotient(one), "one")
    return -(-one[0] // one[1])


def most_whole(one):
    """The greatest integer that is not above one."""
    need(is_quotient(one), "one")
    return one[0] // one[1]


def total_of(quotients):
    """The sum of a tuple of quotients, nought for none."""
    need(is_quotients(quotients), "quotients")
    return ratio_total(quotients)


def shares_of(quotients):
    """The lowest whole numbers of quotients, none below nought and not all nought."""
    fits = is_quotients(quotients)
    fits = fits and all([one[0] >= 0 for one in quotients]) and any([one[0] > 0 for one in quotients])
    need(fits, "quotients")
    return lowest_shares(quotients)
