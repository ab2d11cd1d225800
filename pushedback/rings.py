"""Turnings: texts and the rings of their circles."""

from pushedback.guards import need
from pushedback.kinds import is_row
from pushedback.leastwords import is_least_word, split_least


def sorted_places(text):
    """The places of the text in the order of their letters, those with one letter ascending."""
    return [place for letter, place in sorted([(letter, place) for place, letter in enumerate(text)])]


def circle_words(text):
    """A list of the letters of each circle, in the order of the going."""
    places = sorted_places(text)
    is_left = [True for _ in text]
    words = []
    for begin in range(len(text)):
        word = []
        at = begin
        while is_left[at]:
            is_left[at] = False
            at = places[at]
            word.append(text[at])
        if len(word) > 0:
            words.append(tuple(word))
    return words


def least_rotation(word):
    """The least of the rotations of a word that is not ()."""
    return min([word[at:] + word[:at] for at in range(len(word))])


def rings_by(text):
    """What rings_of gives, for a text that is known to be one."""
    return tuple(sorted([least_rotation(word) for word in circle_words(text)]))


def text_by_rings(rings):
    """What text_of_rings gives, for rings that are known to be some."""
    # words said over and over that are alike for twice the greatest length are alike for ever
    enough = 2 * max([0] + [len(ring) for ring in rings])
    rows = []
    for number, ring in enumerate(rings):
        for at in range(len(ring)):
            rotation = ring[at:] + ring[:at]
            said = rotation * (enough // len(ring) + 1)
            # of equal rings, the one ahead stays ahead all around
            rows.append((said[:enough], number, rotation[-1]))
    return tuple([letter for said, number, letter in sorted(rows)])


def is_rings(thing):
    """Whether the thing is a tuple of least words in ascending order."""
    if not isinstance(thing, tuple) or not all([is_row(part) and is_least_word(part) for part in thing]):
        return False
    return all([thing[at] <= thing[at + 1] for at in range(len(thing) - 1)])


def rings_of(text):
    """The rings of all circles of the text, in ascending order, equal ones as often."""
    need(is_row(text), "text")
    return rings_by(text)


def text_of_rings(rings):
    """The one text with these rings."""
    need(is_rings(rings), "rings")
    return text_by_rings(rings)


def turned(text):
    """The text whose rings are the text's least words."""
    need(is_row(text), "text")
    return text_by_rings(sorted(split_least(text)))


def unturned(text):
    """The text that is turned into this one."""
    need(is_row(text), "text")
    letters = []
    for ring in rings_by(text)[::-1]:
        letters.extend(ring)
    return tuple(letters)
