"""Events and logs read from lines."""

from pushedback.errors import InvalidText
from pushedback.guards import need
from pushedback.schemereadings import read_scheme, read_thing
from pushedback.words import is_numeral, is_numeral_within, is_short_numeral

# the most digits of a ground
LONGEST_GROUND = 500
# how many words the plain events have, in a feed without the digits
LEAST_WORDS = {"pop": 1, "feed": 2, "back": 3}


def thing_behind(line, words):
    """The thing by form that the words behind the first one write."""
    # if there are none, it is the empty word that cannot stand, in the same place
    try:
        return read_thing(" ".join(words[1:]))
    except InvalidText as error:
        raise InvalidText(line, error.field + 1)


def scheme_behind(line, words, ahead):
    """The scheme that the words write behind so many ahead of it."""
    # as above
    try:
        return read_scheme(" ".join(words[ahead:]))
    except InvalidText as error:
        raise InvalidText(line, error.field + ahead)


def can_stand(words, at):
    """Whether a word of a plain event can stand where it does, if all ahead of it can."""
    if at == 0:
        return words[0] in LEAST_WORDS
    if words[0] == "pop":
        return False
    if at == 1:
        return is_numeral_within(words[1], 2, 256)
    if words[0] == "feed":
        return is_numeral_within(words[at], 0, int(words[1]) - 1)
    return at == 2 and is_short_numeral(words[2])


def plain_event(line, words):
    """The event that has neither a thing nor a scheme that the words write."""
    field = 0
    while field < len(words) and can_stand(words, field):
        field += 1
    if field < len(words) or field < LEAST_WORDS[words[0]]:
        raise InvalidText(line, field)
    numbers = [int(word) for word in words[1:]]
    if words[0] == "feed":
        return "feed", numbers[0], tuple(numbers[1:])
    return (words[0],) + tuple(numbers)


def event_of_words(line, words):
    """The event that the words of the line with this index write."""
    if words[0] == "push":
        return "push", thing_behind(line, words)
    if words[0] == "change":
        return "change", scheme_behind(line, words, 1)
    return plain_event(line, words)


def begin_of_words(words):
    """The triple with which a log begins that the words write."""
    if words[0] != "begin":
        raise InvalidText(0, 0)
    if len(words) == 1 or len(words[1]) > LONGEST_GROUND or not is_numeral(words[1]):
        raise InvalidText(0, 1)
    return "begin", int(words[1]), scheme_behind(0, words, 2)


def is_lines(thing):
    """Whether the thing is a list of strings without newlines."""
    if not isinstance(thing, list) or not all([isinstance(part, str) for part in thing]):
        return False
    return all(["\n" not in part for part in thing])


def read_event(text):
    """The event that the line writes."""
    need(isinstance(text, str), "text")
    return event_of_words(0, text.split(" "))


def read_log(lines):
    """The log that the lines write."""
    need(is_lines(lines), "lines")
    if len(lines) == 0:
        raise InvalidText(0, 0)
    log = [begin_of_words(lines[0].split(" "))]
    for line in range(1, len(lines)):
        log.append(event_of_words(line, lines[line].split(" ")))
    return tuple(log)
