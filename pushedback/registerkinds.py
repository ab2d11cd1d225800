"""The kinds of registers: registers, their states and heaps, and the strips that fit them."""

from pushedback.guards import need
from pushedback.kinds import is_integer, is_number, is_pair, is_row_below
from pushedback.tables import is_strip


def is_register_base(thing):
    """Whether the thing is a base that a register can have."""
    return is_integer(thing) and 2 <= thing <= 16


def is_register_least(thing):
    """Whether the thing is a least state that a register can have."""
    return is_integer(thing) and 1 <= thing <= 4096


def is_register(thing):
    """Whether the thing is a pair of a base and a least state."""
    return is_pair(thing) and is_register_base(thing[0]) and is_register_least(thing[1])


def is_fitting(holder, thing):
    """Whether the thing is a strip that fits a register that is known to be one."""
    return is_strip(thing) and len(thing) <= holder[1]


def is_state_of(holder, thing):
    """Whether the thing is a state of a register that is known to be one."""
    base, least = holder
    return is_number(thing) and least <= thing < base * least


def is_heap_of(holder, thing):
    """Whether the thing is a row of digits of the base of a register that is known to be one."""
    return is_row_below(holder[0], thing)


def is_letter_in(strip, thing):
    """Whether the thing is a letter that stands in the strip."""
    return is_number(thing) and thing in strip


def is_text_in(strips, thing):
    """Whether the thing is a text with one letter of each of the strips, in their order."""
    if not isinstance(thing, tuple) or len(thing) != len(strips):
        return False
    return all([is_letter_in(strip, letter) for strip, letter in zip(strips, thing)])


def need_fitting(holder, strip):
    """Refuse the first of a register and a strip that fits it that is not as it has to be."""
    need(is_register(holder), "holder")
    need(is_fitting(holder, strip), "strip")


def fits_register(holder, strip):
    """Whether the strip is no longer than the register's least state."""
    need(is_register(holder), "holder")
    need(is_strip(strip), "strip")
    return is_fitting(holder, strip)


def is_state(holder, thing):
    """Whether any value is a state of the register."""
    need(is_register(holder), "holder")
    return is_state_of(holder, thing)
