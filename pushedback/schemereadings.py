"""Schemes and things read from lines."""

from pushedback.errors import InvalidText
from pushedback.guards import need
from pushedback.schemekinds import SCHEME_WORDS, is_scheme
from pushedback.words import is_short_numeral

BEGIN = "("
END = ")"


def can_stand(word, depth):
    """Whether a word that is none of a scheme can stand where so many ( lack their )."""
    if word == END:
        return depth > 0
    return word == BEGIN or is_short_numeral(word)


def depth_behind(word, depth):
    """How many ( lack their ) behind the word, if so many do ahead of it."""
    if word == BEGIN:
        return depth + 1
    if word == END:
        return depth - 1
    return depth


def scheme_misfit(words):
    """The index of the first word that cannot stand in the line of a scheme, or how many words there are."""
    if words[0] not in SCHEME_WORDS:
        return 0
    depth = 0
    for field in range(1, len(words)):
        begins = words[field] in SCHEME_WORDS and words[field - 1] == BEGIN
        if not begins and not can_stand(words[field], depth):
            return field
        depth = depth_behind(words[field], depth)
    return len(words)


def thing_misfit(words):
    """The index of the first word that cannot stand in the line of a thing, or how many words there are."""
    depth = 0
    for field in range(len(words)):
        is_whole = field > 0 and depth == 0
        if is_whole or not can_stand(words[field], depth):
            return field
        depth = depth_behind(words[field], depth)
    return len(words)


def form_of_words(words):
    """The tuple of what words that can stand write, None if a ( lacks its )."""
    rows = [[]]
    for word in words:
        if word == BEGIN:
            rows.append([])
        elif word == END:
            row = rows.pop()
            rows[-1].append(tuple(row))
        elif word in SCHEME_WORDS:
            rows[-1].append(word)
        else:
            rows[-1].append(int(word))
    if len(rows) > 1:
        return None
    return tuple(rows[0])


def read_form(words, field):
    """The tuple of what the words write, field being the first one that cannot stand."""
    if field < len(words):
        raise InvalidText(0, field)
    form = form_of_words(words)
    if form is None:
        raise InvalidText(0, len(words))
    return form


def read_scheme(text):
    """The scheme that the line writes."""
    need(isinstance(text, str), "text")
    words = text.split(" ")
    form = read_form(words, scheme_misfit(words))
    if not is_scheme(form):
        raise InvalidText(0, 0)
    return form


def read_thing(text):
    """The thing by form that the line writes."""
    need(isinstance(text, str), "text")
    words = text.split(" ")
    return read_form(words, thing_misfit(words))[0]
