"""The checker of sheets."""

from pushedback.errors import InvalidPaper
from pushedback.kinds import is_number, is_pair


def lets_sheet(thing):
    """The strip whose sheet the thing is."""
    if not isinstance(thing, tuple) or len(thing) == 0:
        raise InvalidPaper("shape", -1)
    times = {}
    strip = []
    for at, pair in enumerate(thing):
        if not is_pair(pair):
            raise InvalidPaper("pair", at)
        letter, rest = pair
        if not is_number(letter):
            raise InvalidPaper("letter", at)
        if not is_number(rest) or rest != times.get(letter, 0):
            raise InvalidPaper("rest", at)
        times[letter] = rest + 1
        strip.append(letter)
    return tuple(strip)
