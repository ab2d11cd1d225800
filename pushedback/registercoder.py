"""Writing and reading one letter at a state and a heap."""

from pushedback.errors import Unread
from pushedback.guards import need
from pushedback.registerkinds import is_heap_of, is_letter_in, is_state_of, need_fitting
from pushedback.stretches import letter_stretch
from pushedback.strips import popped_off, pushed_onto


def letter_written(holder, strip, state, heap, letter):
    """What write_letter gives, for parameters that are known to fit."""
    base = holder[0]
    high = letter_stretch(holder, strip, letter)[1]
    digits = list(heap)
    left = state
    while left > high:
        digits.append(left % base)
        left = left // base
    return pushed_onto(left, strip, letter), tuple(digits)


def letter_read(holder, strip, state, heap):
    """What read_letter gives, for parameters that are known to fit."""
    base, least = holder
    letter, left = popped_off(state, strip)
    digits = list(heap)
    while left < least:
        if len(digits) == 0:
            raise Unread("dry")
        left = base * left + digits.pop()
    return letter, left, tuple(digits)


def write_letter(holder, strip, state, heap, letter):
    """The state and the heap that writing the letter gives."""
    need_fitting(holder, strip)
    need(is_state_of(holder, state), "state")
    need(is_heap_of(holder, heap), "heap")
    need(is_letter_in(strip, letter), "letter")
    return letter_written(holder, strip, state, heap, letter)


def read_letter(holder, strip, state, heap):
    """The letter, the state and the heap that reading gives."""
    need_fitting(holder, strip)
    need(is_state_of(holder, state), "state")
    need(is_heap_of(holder, heap), "heap")
    return letter_read(holder, strip, state, heap)
