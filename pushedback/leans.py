"""Leans: between what lines a push stays."""

from pushedback.guards import need
from pushedback.kinds import is_number, is_quotient
from pushedback.ratios import WHOLE, ratio, ratio_by, ratio_order, ratio_product, ratio_sum
from pushedback.tables import is_letter, is_strip, is_table


def is_lean(thing):
    """Whether the thing is a triple of quotients, growth above 0, low at most high."""
    if not isinstance(thing, tuple) or len(thing) != 3:
        return False
    if not all([is_quotient(part) for part in thing]):
        return False
    growth, low, high = thing
    return growth[0] > 0 and ratio_order(low, high) <= 0


def chance_of(table, letter):
    """The letter's count by the table's sum."""
    need(is_table(table), "table")
    need(is_letter(table, letter), "letter")
    return ratio(table[letter], sum(table))


def lean_of(strip, letter):
    """The lean of a letter of a strip."""
    need(is_strip(strip), "strip")
    need(is_number(letter) and letter in strip, "letter")
    size = len(strip)
    places = [place for place in range(size) if strip[place] == letter]
    count = len(places)
    # all over the one bottom count, so that the tops alone can be compared
    tops = [places[time] * count - size * time for time in range(count)]
    return ratio(size, count), ratio(min(tops), count), ratio(max(tops), count)


def leans_joined(one, other):
    """The lean of pushing by one and then by the other, both known to be leans."""
    growth = other[0]
    low = ratio_sum(ratio_product(growth, one[1]), other[1])
    high = ratio_sum(ratio_product(growth, one[2]), other[2])
    return ratio_product(one[0], growth), low, high


def lean_after(one, other):
    """The lean of pushing by one and then by the other."""
    need(is_lean(one), "one")
    need(is_lean(other), "other")
    return leans_joined(one, other)


def lean_back(one):
    """The lean of what undoes a push with this lean."""
    need(is_lean(one), "one")
    growth, low, high = one
    return ratio_by(WHOLE, growth), ratio_by((-high[0], high[1]), growth), ratio_by((-low[0], low[1]), growth)


def lean_holds(lean, stack, after):
    """Whether after lies between the two lines of the lean at the stack."""
    need(is_lean(lean), "lean")
    need(is_number(stack), "stack")
    need(is_number(after), "after")
    growth, low, high = lean
    grown = ratio_product(growth, (stack, 1))
    reached = (after, 1)
    return ratio_order(ratio_sum(grown, low), reached) <= 0 and ratio_order(reached, ratio_sum(grown, high)) <= 0
