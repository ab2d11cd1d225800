"""Pushing and popping one letter by a strip, which has its letters in any order."""

from pushedback.guards import need
from pushedback.kinds import is_number
from pushedback.tables import is_strip


def need_letter(strip, letter):
    """Refuse the first of a strip and a letter of it that is not as it has to be."""
    need(is_strip(strip), "strip")
    need(is_number(letter) and letter in strip, "letter")


def letter_places(strip, letter):
    """The places of a letter in a strip in which it is known to stand."""
    return tuple([place for place in range(len(strip)) if strip[place] == letter])


def times_ahead(strip, letter, place):
    """How often the letter stands ahead of the place in the strip said over and over."""
    size = len(strip)
    return strip.count(letter) * (place // size) + strip[:place % size].count(letter)


def pushed_onto(stack, strip, letter):
    """What push_strip gives, for parameters that are known to fit."""
    places = letter_places(strip, letter)
    count = len(places)
    return len(strip) * (stack // count) + places[stack % count]


def popped_off(stack, strip):
    """What pop_strip gives, for parameters that are known to fit."""
    letter = strip[stack % len(strip)]
    return letter, times_ahead(strip, letter, stack)


def push_strip(stack, strip, letter):
    """The stack with the letter pushed by the strip."""
    need(is_number(stack), "stack")
    need_letter(strip, letter)
    return pushed_onto(stack, strip, letter)


def pop_strip(stack, strip):
    """The letter popped by the strip, and the stack that is left."""
    need(is_number(stack), "stack")
    need(is_strip(strip), "strip")
    return popped_off(stack, strip)


def places_in(strip, letter):
    """The set of the places at which the letter is."""
    need_letter(strip, letter)
    return letter_places(strip, letter)


def reached(strip, letter, bound):
    """How many stacks there are onto which pushing the letter gives less than bound."""
    need_letter(strip, letter)
    need(is_number(bound), "bound")
    return times_ahead(strip, letter, bound)


def sheet_of(strip):
    """The pairs that popping the stacks below the strip's size gives."""
    need(is_strip(strip), "strip")
    return tuple([popped_off(stack, strip) for stack in range(len(strip))])
