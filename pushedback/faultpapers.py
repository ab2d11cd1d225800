"""Papers that tell whether a strip is exact for a register."""

from pushedback.registerkinds import need_fitting
from pushedback.stretches import letters_in, slip_of


def fault_paper(holder, strip):
    """A paper that lets_fault accepts."""
    need_fitting(holder, strip)
    for letter in letters_in(strip):
        state = slip_of(holder, strip, letter)
        if state is not None:
            return "slips", letter, state
    # where a letter sticks, another one slips
    return ("exact",)
