"""Claims of growth, and which of them a one-to-one way of pushing can keep."""

from pushedback.guards import need
from pushedback.kinds import is_number, is_quotient
from pushedback.powers import multiple_of
from pushedback.ratios import ratio_total

MOST_GROWTHS = 8
MOST_MULTIPLE = 64


def is_growths(thing):
    """Whether the thing is a tuple of one to eight quotients above nought, of tops with a small common multiple."""
    if not isinstance(thing, tuple) or not 1 <= len(thing) <= MOST_GROWTHS:
        return False
    if not all([is_quotient(part) and part[0] > 0 for part in thing]):
        return False
    return multiple_of(tuple([part[0] for part in thing])) <= MOST_MULTIPLE


def need_claim(growths, extra):
    """Refuse the first of growths and extra that is not as it has to be."""
    need(is_growths(growths), "growths")
    need(is_number(extra), "extra")


def growth_sum(growths):
    """The sum of 1 by each of growths that are known to be some."""
    return ratio_total([(bottom, top) for top, bottom in growths])


def can_be_kept(growths, extra):
    """What claim_fits tells, for parameters that are known to fit."""
    top, bottom = growth_sum(growths)
    return top <= bottom and extra >= len(growths) - 1


def pairs_drawn(growths, extra, bound):
    """What pairs_below gives, for parameters that are known to fit."""
    room = bound + 1 - extra
    if room <= 0:
        return 0
    # the stacks below room by growth
    return sum([-(-room * bottom // top) for top, bottom in growths])


def is_overdrawn(growths, extra, bound):
    """Whether more pairs have to be at most bound than there are numbers to hold them."""
    return pairs_drawn(growths, extra, bound) > bound + 1


def sum_of_growths(growths):
    """The sum of 1 by each of the growths."""
    need(is_growths(growths), "growths")
    return growth_sum(growths)


def claim_fits(growths, extra):
    """Whether there is a one-to-one way of pushing that keeps the growths and extra."""
    need_claim(growths, extra)
    return can_be_kept(growths, extra)


def pairs_below(growths, extra, bound):
    """How many pairs of a letter and a stack have the letter's growth times the stack, plus extra, below bound + 1."""
    need_claim(growths, extra)
    need(is_number(bound), "bound")
    return pairs_drawn(growths, extra, bound)


def overdrawn(growths, extra):
    """A bound with more than bound + 1 pairs below it, None if there is none."""
    need_claim(growths, extra)
    if can_be_kept(growths, extra):
        return None
    if extra < len(growths) - 1:
        # there each letter has the stack 0 below the bound, so there are as many pairs as letters
        return extra
    top, bottom = growth_sum(growths)
    # so much room that what it draws beyond itself is more than extra
    room = extra * bottom // (top - bottom) + 1
    return room + extra - 1
