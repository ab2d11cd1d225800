"""Whole texts as rows of digits, by one state and one heap."""

from pushedback.digitrows import digits_of, value_of
from pushedback.errors import Unread
from pushedback.guards import need
from pushedback.reaches import reach_of
from pushedback.registercoder import letter_read, letter_written
from pushedback.registerkinds import is_fitting, is_heap_of, is_register, is_state_of, is_text_in
from pushedback.stretches import is_exact_by


def are_exact(holder, thing):
    """Whether the thing is a tuple of strips that fit the register and are exact for it."""
    if not isinstance(thing, tuple):
        return False
    return all([is_fitting(holder, strip) and is_exact_by(holder, strip) for strip in thing])


def width_of(holder):
    """What wide_of gives, for a register that is known to be one."""
    base, least = holder
    return reach_of(base, (base * least, 1))


def row_written(holder, many, strips, text):
    """The heap and so many states, by which the letters go in turn, as one row of digits."""
    base, least = holder
    wide = width_of(holder)
    states = [least for _ in range(many)]
    heap = ()
    for at in range(len(text) - 1, -1, -1):
        states[at % many], heap = letter_written(holder, strips[at], states[at % many], heap, text[at])
    row = list(heap)
    for state in states[::-1]:
        row.extend(digits_of(base, state, wide)[::-1])
    return tuple(row)


def states_in(holder, many, digits):
    """So many states at the end of the row, the first of them last, and the heap ahead of them."""
    wide = width_of(holder)
    if len(digits) < many * wide:
        raise Unread("short")
    states = []
    end = len(digits)
    for _ in range(many):
        state = value_of(holder[0], digits[end - wide:end][::-1])
        if not is_state_of(holder, state):
            raise Unread("state")
        states.append(state)
        end = end - wide
    return states, digits[:end]


def row_read(holder, many, strips, digits):
    """The text that row_written turns into the row, read by so many states."""
    states, heap = states_in(holder, many, digits)
    text = []
    for at in range(len(strips)):
        letter, states[at % many], heap = letter_read(holder, strips[at], states[at % many], heap)
        text.append(letter)
    if len(heap) > 0 or any([state != holder[1] for state in states]):
        raise Unread("end")
    return tuple(text)


def wide_of(holder):
    """How many digits each state of the register is written with."""
    need(is_register(holder), "holder")
    return width_of(holder)


def write_text(holder, strips, text):
    """The row of digits of the text, its letters written by the strips, the last one first."""
    need(is_register(holder), "holder")
    need(are_exact(holder, strips), "strips")
    need(is_text_in(strips, text), "text")
    return row_written(holder, 1, strips, text)


def read_text(holder, strips, digits):
    """The text read from the row of digits by the strips."""
    need(is_register(holder), "holder")
    need(are_exact(holder, strips), "strips")
    need(is_heap_of(holder, digits), "digits")
    return row_read(holder, 1, strips, digits)
