"""The checker of papers about the ends of grammars."""

from pushedback.errors import InvalidPaper
from pushedback.grammarkinds import is_grammar
from pushedback.grammars import first_symbols, following_symbols, met_symbols
from pushedback.guards import need
from pushedback.kinds import is_number


def has_shape(thing):
    """Whether the thing is a pair of "ends" and a tuple or a triple of "goes" and two tuples."""
    if not isinstance(thing, tuple) or not all([isinstance(part, tuple) for part in thing[1:]]):
        return False
    return len(thing) == 2 and thing[0] == "ends" or len(thing) == 3 and thing[0] == "goes"


def lets_end(grammar, thing):
    """The word of a paper that is true of the grammar."""
    need(is_grammar(grammar), "grammar")
    if not has_shape(thing):
        raise InvalidPaper("shape", -1)
    firsts = [first_symbols(symbol) for symbol in grammar]
    if thing[0] == "ends":
        check_ends(met_symbols(grammar), firsts, thing[1])
        return "ends"
    way, ring = thing[1:]
    check_walk("way", 0, [following_symbols(symbol) for symbol in grammar], way)
    check_walk("ring", way[-1], firsts, ring)
    if ring[0] not in firsts[ring[-1]]:
        raise InvalidPaper("back", -1)
    return "goes"


def check_ends(met, firsts, told):
    """Raise the first entry that applies to what should be all symbols met, those of first rules ahead."""
    for at, symbol in enumerate(told):
        if not is_number(symbol) or symbol not in met or symbol in told[:at]:
            raise InvalidPaper("symbol", at)
        if not all([part in told[:at] for part in firsts[symbol]]):
            raise InvalidPaper("first", at)
    for symbol in met:
        if symbol not in told:
            raise InvalidPaper("left", symbol)


def check_walk(word, begin, following, told):
    """Raise the first entry that applies to what should begin there and go on from symbol to symbol."""
    if len(told) == 0:
        raise InvalidPaper(word, -1)
    allowed = [begin]
    for at, symbol in enumerate(told):
        if not is_number(symbol) or symbol not in allowed:
            raise InvalidPaper(word, at)
        allowed = following[symbol]
