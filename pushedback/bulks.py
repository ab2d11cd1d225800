"""Bulks: states and heaps as one number, and between what bounds texts make them grow."""

from pushedback.guards import need
from pushedback.powers import power
from pushedback.ratios import WHOLE, ratio, ratio_product
from pushedback.registerkinds import (
    is_fitting, is_heap_of, is_letter_in, is_register, is_state_of, is_text_in, need_fitting,
)


def divides(holder, strip):
    """Whether the strip's size divides the register's least state."""
    return holder[1] % len(strip) == 0


def bounds_of(holder, strip, letter):
    """What bulk_bounds gives, for parameters that are known to fit."""
    least = holder[1]
    size = len(strip)
    count = strip.count(letter)
    low = ratio(size * (count * least - (size - count) * (count - 1)), count * (count * least + size))
    return low, ratio(size * (least + size - count), count * least)


def powers_within(base, one):
    """The greatest number n with the base to the power n at most the quotient, 0 if there is none."""
    top, bottom = one
    many = 0
    reached = bottom * base
    while reached <= top:
        reached = reached * base
        many += 1
    return many


def bulk_of(holder, state, heap):
    """The state times the base to the power of how many digits are in the heap."""
    need(is_register(holder), "holder")
    need(is_state_of(holder, state), "state")
    need(is_heap_of(holder, heap), "heap")
    return state * power(holder[0], len(heap))


def bulk_bounds(holder, strip, letter):
    """Between what factors writing the letter multiplies the bulk."""
    need_fitting(holder, strip)
    need(divides(holder, strip), "strip")
    need(is_letter_in(strip, letter), "letter")
    return bounds_of(holder, strip, letter)


def heap_bounds(holder, strips, text):
    """How many digits a heap has at least and at most after the text."""
    need(is_register(holder), "holder")
    fits = isinstance(strips, tuple) and all([is_fitting(holder, one) and divides(holder, one) for one in strips])
    need(fits, "strips")
    need(is_text_in(strips, text), "text")
    low = WHOLE
    high = WHOLE
    for strip, letter in zip(strips, text):
        bounds = bounds_of(holder, strip, letter)
        low = ratio_product(low, bounds[0])
        high = ratio_product(high, bounds[1])
    # the power behind the greatest one within a quotient is the least one above it
    return powers_within(holder[0], low), powers_within(holder[0], high)
