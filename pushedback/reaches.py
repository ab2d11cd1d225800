"""How many digits, and how high a power, it takes."""

from pushedback.guards import need
from pushedback.kinds import is_base, is_number, is_quotient


def places_of(base, number):
    """The least number n with the base to the power n above the number."""
    need(is_base(base), "base")
    need(is_number(number), "number")
    places = 0
    left = number
    while left > 0:
        left = left // base
        places += 1
    return places


def reach_of(base, one):
    """The least number n with the base to the power n not below the quotient."""
    need(is_base(base), "base")
    need(is_quotient(one) and one[0] > 0, "one")
    top, bottom = one
    reach = 0
    while bottom < top:
        bottom = bottom * base
        reach += 1
    return reach
