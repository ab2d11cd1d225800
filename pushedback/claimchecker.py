"""The checker of papers about claims."""

from pushedback.claims import is_overdrawn, need_claim
from pushedback.errors import InvalidPaper
from pushedback.kinds import is_number, is_pair
from pushedback.strips import letter_places
from pushedback.tables import is_strip


def lets_claim(growths, extra, thing):
    """The first word of a paper that is true of the claim."""
    need_claim(growths, extra)
    if not is_pair(thing) or thing[0] not in ("strip", "over"):
        raise InvalidPaper("shape", -1)
    word, told = thing
    if word == "strip":
        check_strip(growths, extra, told)
    else:
        check_bound(growths, extra, told)
    return word


def check_strip(growths, extra, told):
    """Raise the first entry that applies to what should be a strip that keeps the claim."""
    if not is_strip(told):
        raise InvalidPaper("strip", -1)
    for at, letter in enumerate(told):
        if letter >= len(growths):
            raise InvalidPaper("letter", at)
    for letter in range(len(growths)):
        check_letter(growths[letter], extra, told, letter)


def check_letter(growth, extra, strip, letter):
    """Raise the first entry that applies to one letter of the strip."""
    top, bottom = growth
    places = letter_places(strip, letter)
    if len(places) == 0:
        raise InvalidPaper("lacks", letter)
    if len(strip) * bottom > len(places) * top:
        raise InvalidPaper("growth", letter)
    for time, place in enumerate(places):
        if (place - extra) * bottom > top * time:
            raise InvalidPaper("place", (letter, time))


def check_bound(growths, extra, told):
    """Raise the first entry that applies to what should be a bound that is overdrawn."""
    if not is_number(told):
        raise InvalidPaper("bound", -1)
    if not is_overdrawn(growths, extra, told):
        raise InvalidPaper("over", -1)
