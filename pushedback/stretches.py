"""Stretches: from which stacks pushing gives a state, and what slips or sticks for it."""

from pushedback.guards import need
from pushedback.kinds import is_positive
from pushedback.registerkinds import is_letter_in, is_register, is_register_base, need_fitting
from pushedback.strips import pushed_onto, times_ahead
from pushedback.tables import is_strip


def letters_in(strip):
    """The letters that stand in the strip, ascending."""
    return sorted(set(strip))


def letter_stretch(holder, strip, letter):
    """What stretch_of gives, for parameters that are known to fit."""
    base, least = holder
    # a greater stack is pushed to more, so those pushed below a bound are the least ones
    return times_ahead(strip, letter, least), times_ahead(strip, letter, base * least) - 1


def slip_of(holder, strip, letter):
    """What slips_at gives, for parameters that are known to fit."""
    base, least = holder
    low, high = letter_stretch(holder, strip, letter)
    if high + 1 >= base * low:
        return None
    # the least number that is above the stretch, and below it with its last digit off; digits behind it come off first
    state = high + 1
    while state < least:
        state = base * state
    return state


def stick_of(holder, strip, letter):
    """What sticks_at gives, for parameters that are known to fit."""
    low, high = letter_stretch(holder, strip, letter)
    if high + 1 <= holder[0] * low:
        return None
    # reading takes digits behind low, and writing leaves the first of them there
    return pushed_onto(low, strip, letter)


def is_exact_by(holder, strip):
    """What is_exact tells, for a strip that is known to fit."""
    stretches = [letter_stretch(holder, strip, letter) for letter in letters_in(strip)]
    return all([high + 1 == holder[0] * low for low, high in stretches])


def rests_by(base, strip):
    """What exact_rests gives, for parameters that are known to fit."""
    letters = letters_in(strip)
    rests = []
    for rest in range(len(strip)):
        ahead = [base * times_ahead(strip, letter, rest) for letter in letters]
        if ahead == [times_ahead(strip, letter, base * rest) for letter in letters]:
            rests.append(rest)
    return tuple(rests)


def stretch_of(holder, strip, letter):
    """The least and the greatest stack onto which pushing the letter gives a state."""
    need_fitting(holder, strip)
    need(is_letter_in(strip, letter), "letter")
    return letter_stretch(holder, strip, letter)


def slips_at(holder, strip, letter):
    """A state at which writing the letter gives no state, None if there is none."""
    need_fitting(holder, strip)
    need(is_letter_in(strip, letter), "letter")
    return slip_of(holder, strip, letter)


def sticks_at(holder, strip, letter):
    """A state that pops the letter and that reading and then writing does not give, None if there is none."""
    need_fitting(holder, strip)
    need(is_letter_in(strip, letter), "letter")
    return stick_of(holder, strip, letter)


def is_exact(holder, strip):
    """Whether none of the strip's letters slips or sticks."""
    need_fitting(holder, strip)
    return is_exact_by(holder, strip)


def exact_rests(base, strip):
    """The set of the rests, by the strip's size, of the least states of the registers for which the strip is exact."""
    need(is_register_base(base), "base")
    need(is_strip(strip), "strip")
    return rests_by(base, strip)


def exact_for_all(holder, many):
    """Whether all strips of this size are exact for the register."""
    need(is_register(holder), "holder")
    need(is_positive(many) and many <= holder[1], "many")
    return holder[1] % many == 0
