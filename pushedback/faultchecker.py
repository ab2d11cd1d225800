"""The checker of papers about strips and registers."""

from pushedback.errors import InvalidPaper
from pushedback.registercoder import letter_written
from pushedback.registerkinds import is_letter_in, is_state_of, need_fitting
from pushedback.stretches import is_exact_by
from pushedback.strips import popped_off


def lets_fault(holder, strip, thing):
    """The first word of a paper that is true of the register and the strip."""
    need_fitting(holder, strip)
    if not isinstance(thing, tuple) or len(thing) not in (1, 3):
        raise InvalidPaper("shape", -1)
    word = thing[0]
    if len(thing) == 1:
        if word != "exact":
            raise InvalidPaper("shape", -1)
        if not is_exact_by(holder, strip):
            raise InvalidPaper("exact", -1)
        return word
    if word not in ("slips", "sticks"):
        raise InvalidPaper("shape", -1)
    letter, state = thing[1], thing[2]
    if not is_letter_in(strip, letter):
        raise InvalidPaper("letter", 1)
    if not is_state_of(holder, state):
        raise InvalidPaper("state", 2)
    if word == "slips":
        check_slip(holder, strip, letter, state)
    else:
        check_stick(holder, strip, letter, state)
    return word


def check_slip(holder, strip, letter, state):
    """Raise the entry that applies if writing the letter at the state gives a state."""
    if is_state_of(holder, letter_written(holder, strip, state, (), letter)[0]):
        raise InvalidPaper("slips", 2)


def check_stick(holder, strip, letter, state):
    """Raise the first entry that applies if reading the letter and writing it gives the state back."""
    base, least = holder
    popped, left = popped_off(state, strip)
    if popped != letter:
        raise InvalidPaper("pops", 2)
    heap = []
    while left < least:
        left = base * left
        heap.append(0)
    if letter_written(holder, strip, left, (), letter) == (state, tuple(heap)):
        raise InvalidPaper("sticks", 2)
