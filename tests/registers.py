"""Registers by their definitions, step by step, for the tests."""

import functools
import itertools

BIG = 10 ** 60 + 7

# values that are no register, and none that fits where a strip has to
NO_REGISTER = (
    None, True, 2, "", (), [], [2, 4], (2,), (2, 4, 1), (1, 4), (17, 4), (2, 0), (2, 4097), (2, -1), (0, 4), (-2, 4),
    (True, 4), (2, True), (2, None), ("2", 4), (2, "4"), (2, (4,)), ((2, 4),), (BIG, 4), (2, BIG),
)


def said(strip, many):
    """The first letters of the strip said over and over."""
    return [strip[place % len(strip)] for place in range(many)]


def pushed(stack, strip, letter):
    """The place at which the letter stands for the time stack."""
    time = 0
    place = 0
    while True:
        if strip[place % len(strip)] == letter:
            if time == stack:
                return place
            time += 1
        place += 1


def popped(state, strip):
    letters = said(strip, state + 1)
    return letters[-1], letters[:-1].count(letters[-1])


def states(register):
    base, least = register
    return range(least, base * least)


@functools.lru_cache(None)
def stretch(register, strip, letter):
    """The least and the greatest stack that is pushed to a state."""
    base, least = register
    letters = said(strip, base * least)
    stacks = [letters[:state].count(letter) for state in states(register) if letters[state] == letter]
    return min(stacks), max(stacks)


def written(register, strip, state, heap, letter):
    base = register[0]
    high = stretch(register, strip, letter)[1]
    while state > high:
        heap = heap + (state % base,)
        state = state // base
    return pushed(state, strip, letter), heap


def read(register, strip, state, heap):
    """The letter, the state and the heap, None if the heap runs dry."""
    base, least = register
    letter, state = popped(state, strip)
    while state < least:
        if not heap:
            return None
        state, heap = base * state + heap[-1], heap[:-1]
    return letter, state, heap


def slipping(register, strip, letter):
    """All states at which writing the letter gives no state."""
    every = states(register)
    return [state for state in every if written(register, strip, state, (), letter)[0] not in every]


def sticking(register, strip, letter):
    """All states that pop the letter and that reading from noughts and then writing does not give back."""
    found = []
    for state in states(register):
        if popped(state, strip)[0] != letter:
            continue
        many = 0
        while read(register, strip, state, (0,) * many) is None:
            many += 1
        heap = (0,) * many
        _, grown, left = read(register, strip, state, heap)
        if written(register, strip, grown, left, letter) != (state, heap):
            found.append(state)
    return found


def small_cases():
    """Small registers, each with strips that fit it."""
    for base, least in itertools.chain(itertools.product((2, 3), range(1, 7)), ((4, 3), (5, 4), (10, 3), (16, 2))):
        for size in range(1, min(least, 4) + 1):
            for strip in itertools.product(range(3), repeat=size):
                yield (base, least), strip
