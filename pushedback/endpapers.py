"""Papers that tell whether popping parses by a grammar ends."""

from pushedback.grammarkinds import is_grammar
from pushedback.grammars import first_symbols, following_symbols, reached_symbols
from pushedback.guards import need


def ending_order(grammar, met):
    """Those of the symbols met from which the first rules end, each behind all symbols of its first rule."""
    order = []
    # each round finds one at least, while there are some
    for _ in met:
        for symbol in met:
            if symbol not in order and all([part in order for part in first_symbols(grammar[symbol])]):
                order.append(symbol)
    return tuple(order)


def way_to(grammar, goals):
    """A way from the symbol 0 to one of the goals, some of which are met."""
    ways = [(0,)]
    seen = [0]
    at = 0
    way = ways[at]
    while way[-1] not in goals:
        following = following_symbols(grammar[way[-1]])
        for symbol in following:
            if symbol not in seen:
                seen.append(symbol)
                ways.append(way + (symbol,))
        at += 1
        way = ways[at]
    return way


def going_paper(grammar, going):
    """The paper for symbols that are met and each of which has one of them in its first rule."""
    way = way_to(grammar, going)
    walk = [way[-1]]
    while True:
        following = [symbol for symbol in first_symbols(grammar[walk[-1]]) if symbol in going][0]
        if following in walk:
            begin = walk.index(following)
            return "goes", way + tuple(walk[1:begin + 1]), tuple(walk[begin:])
        walk.append(following)


def end_paper(grammar):
    """A paper that tells whether from no symbol that is met the first rules alone go on for ever."""
    need(is_grammar(grammar), "grammar")
    met = reached_symbols(grammar)
    order = ending_order(grammar, met)
    if len(order) == len(met):
        return "ends", order
    return going_paper(grammar, [symbol for symbol in met if symbol not in order])
