"""Grammars: which symbols are met, and whether popping parses ends."""

from pushedback.grammarkinds import is_grammar, symbols_in
from pushedback.guards import need


def used_bodies(symbol):
    """The bodies of the symbol's rules with a count above 0, in order."""
    return [body for count, body in symbol if count > 0]


def first_symbols(symbol):
    """The symbols in the body of the symbol's first rule."""
    return symbols_in(used_bodies(symbol)[0])


def following_symbols(symbol):
    """The symbols in the bodies of the symbol's rules with a count above 0."""
    return [part for body in used_bodies(symbol) for part in symbols_in(body)]


def reached_symbols(grammar):
    """A list of the symbols that are met, the symbol 0 first."""
    met = [0]
    at = 0
    while at < len(met):
        following = following_symbols(grammar[met[at]])
        for symbol in following:
            if symbol not in met:
                met.append(symbol)
        at += 1
    return met


def ends_by(bodies):
    """For each symbol the place of the first of its bodies by which it ends, -1 if it ends by none of them."""
    ends = [-1 for _ in bodies]
    is_growing = True
    while is_growing:
        is_growing = False
        for symbol in range(len(bodies)):
            if ends[symbol] < 0:
                ends[symbol] = ending_body(bodies[symbol], ends)
                is_growing = is_growing or ends[symbol] >= 0
    return ends


def ending_body(bodies, ends):
    """The place of the first body of which all symbols end, -1 if there is none."""
    for at, body in enumerate(bodies):
        if all([ends[symbol] >= 0 for symbol in symbols_in(body)]):
            return at
    return -1


def met_symbols(grammar):
    """The set of the symbols that are met."""
    need(is_grammar(grammar), "grammar")
    return tuple(sorted(reached_symbols(grammar)))


def ends_always(grammar):
    """Whether from no symbol that is met the first rules alone go on for ever."""
    need(is_grammar(grammar), "grammar")
    ends = ends_by([used_bodies(symbol)[:1] for symbol in grammar])
    return all([ends[symbol] >= 0 for symbol in reached_symbols(grammar)])


def rule_first(symbol, body):
    """The symbol with a rule of this body and a count above 0 moved ahead of the others."""
    at = [count > 0 and own == body for count, own in symbol].index(True)
    return symbol[at:at + 1] + symbol[:at] + symbol[at + 1:]


def made_to_end(grammar):
    """The grammar with rules moved so that it ends always, None if no sequence of its rules does."""
    need(is_grammar(grammar), "grammar")
    bodies = [used_bodies(symbol) for symbol in grammar]
    ends = ends_by(bodies)
    if any([ends[symbol] < 0 for symbol in reached_symbols(grammar)]):
        return None
    symbols = []
    for at, symbol in enumerate(grammar):
        # what is not met need not end
        if ends[at] < 0:
            symbols.append(symbol)
        else:
            symbols.append(rule_first(symbol, bodies[at][ends[at]]))
    return tuple(symbols)
