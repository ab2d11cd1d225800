"""Stacks read from lines."""

from pushedback.digitrows import stack_of
from pushedback.errors import InvalidText
from pushedback.guards import need
from pushedback.words import is_numeral_within


def first_misfit(words):
    """The index of the first word that cannot stand, or how many words there are."""
    if words[0] != "stack":
        return 0
    if len(words) == 1 or not is_numeral_within(words[1], 2, 256):
        return 1
    base = int(words[1])
    field = 2
    while field < len(words) and is_numeral_within(words[field], 0, base - 1):
        field += 1
    return field


def read_stack(text):
    """The base and the stack that the line writes."""
    need(isinstance(text, str), "text")
    words = text.split(" ")
    field = first_misfit(words)
    if len(words) == 1 or field < len(words):
        raise InvalidText(0, field)
    base = int(words[1])
    return base, stack_of(base, tuple([int(word) for word in words[2:]]))
