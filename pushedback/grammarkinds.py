"""Which values are grammars, and which grammars are full."""

from pushedback.guards import need
from pushedback.kinds import is_integer, is_number, is_pair


def is_body(symbols, thing):
    """Whether the thing is a tuple of letters, and of symbols of which there are so many."""
    return isinstance(thing, tuple) and all([is_integer(part) and part >= -symbols for part in thing])


def is_rule(symbols, thing):
    """Whether the thing is a pair of a count and a body."""
    return is_pair(thing) and is_number(thing[0]) and is_body(symbols, thing[1])


def is_symbol(symbols, thing):
    """Whether the thing is a tuple of rules, some of a count above 0."""
    if not isinstance(thing, tuple) or not all([is_rule(symbols, rule) for rule in thing]):
        return False
    return any([count > 0 for count, body in thing])


def is_grammar(thing):
    """Whether the thing is a tuple of symbols, not empty."""
    if not isinstance(thing, tuple) or len(thing) == 0:
        return False
    return all([is_symbol(len(thing), symbol) for symbol in thing])


def symbols_in(body):
    """The symbols of a body, in order, equal ones too."""
    return [-1 - part for part in body if part < 0]


def is_full(grammar):
    """Whether no body of the grammar is () or one symbol alone."""
    need(is_grammar(grammar), "grammar")
    bodies = [body for symbol in grammar for count, body in symbol]
    return all([len(body) > 1 or len(body) == 1 and body[0] >= 0 for body in bodies])
