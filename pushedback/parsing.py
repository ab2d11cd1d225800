"""Texts by grammars, with the parse hidden: it is popped off the stack and pushed with the text."""

from pushedback.exchanges import popped_by, pushed_by
from pushedback.grammarkinds import is_full, is_grammar, symbols_in
from pushedback.guards import need
from pushedback.kinds import is_number, is_row
from pushedback.listings import rows_across
from pushedback.parses import (
    body_of, is_ending_grammar, popped_nodes, pushed_nodes, rule_chance, text_of_nodes,
)
from pushedback.ratios import NOUGHT, lowest_shares, ratio_product, ratio_total

# the longest text whose parse is hidden
MOST_LETTERS = 10


def is_full_grammar(thing):
    """Whether the thing is a grammar that is full."""
    return is_grammar(thing) and is_full(thing)


def cuts_of_body(text, totals, span, body, chance):
    """The pairs of the lengths that a body's symbols have in a span and of their weight, above 0, ascending."""
    begin, end = span[1:]
    # of each: the lengths so far, the place behind them, the weight so far
    rows = [((), begin, chance)]
    for at, part in enumerate(body):
        if part >= 0:
            rows = [(told, place + 1, weight) for told, place, weight in rows if text[place:place + 1] == (part,)]
        else:
            # all that stand behind in the body take a letter at least
            last = end - (len(body) - at - 1)
            rows = [
                (told + (behind - place,), behind, ratio_product(weight, totals[-1 - part, place, behind]))
                for told, place, weight in rows for behind in range(place + 1, last + 1)
                if totals[-1 - part, place, behind] != NOUGHT
            ]
    return [(told, weight) for told, place, weight in rows if place == end]


def choices_at(grammar, text, totals, span):
    """The triples of a rule, lengths and a weight above 0, ascending, of a span: a symbol and where its part is."""
    symbol = span[0]
    choices = []
    for rule, (count, body) in enumerate(grammar[symbol]):
        if count > 0:
            cuts = cuts_of_body(text, totals, span, body, rule_chance(grammar, symbol, rule))
            choices.extend([(rule, lengths, weight) for lengths, weight in cuts])
    return choices


def weights_of(choices):
    """The weights of choices, in order."""
    return [weight for rule, lengths, weight in choices]


def totals_of(grammar, text):
    """The total of each symbol and part of the text, not (); shorter parts come first, as longer ones need them."""
    totals = {}
    for wide in range(1, len(text) + 1):
        for begin in range(len(text) - wide + 1):
            for symbol in range(len(grammar)):
                span = (symbol, begin, begin + wide)
                totals[span] = ratio_total(weights_of(choices_at(grammar, text, totals, span)))
    return totals


def whole_total(totals, text):
    """The sum of the chances of all parses of the text."""
    return totals.get((0, 0, len(text)), NOUGHT)


def spans_below(body, lengths, begin):
    """The symbols of a body with the parts that they have in the text, in order."""
    spans = []
    place = begin
    for part in body:
        if part < 0:
            wide = lengths[len(spans)]
            spans.append((-1 - part, place, place + wide))
            place = place + wide
        else:
            place += 1
    return spans


def parses_at(grammar, text, totals, span):
    """A list of all parses of a symbol that have the part as their text."""
    symbol, begin = span[:2]
    parses = []
    for rule, lengths, weight in choices_at(grammar, text, totals, span):
        below = spans_below(body_of(grammar, (symbol, rule)), lengths, begin)
        parts = rows_across([parses_at(grammar, text, totals, part) for part in below])
        parses.extend([(rule, row) for row in parts])
    return parses


def popped_choices(stack, grammar, text, totals):
    """The nodes of a parse of the text, popped node by node, and the stack that is left."""
    nodes = []
    waiting = [(0, 0, len(text))]
    left = stack
    while len(waiting) > 0:
        span = waiting.pop()
        choices = choices_at(grammar, text, totals, span)
        place, left = popped_by(left, lowest_shares(weights_of(choices)))
        rule, lengths, _ = choices[place]
        nodes.append((span[0], rule))
        below = spans_below(body_of(grammar, nodes[-1]), lengths, span[1])
        waiting.extend(below[::-1])
    return nodes, left


def lengths_of_nodes(grammar, nodes):
    """For each node the tuple of how long the texts of the nodes just below it are."""
    rows = []
    waiting = []
    for node in nodes[::-1]:
        body = body_of(grammar, node)
        lengths = tuple([waiting.pop() for _ in symbols_in(body)])
        waiting.append(len(body) - len(lengths) + sum(lengths))
        rows.append(lengths)
    return rows[::-1]


def pushed_choices(stack, grammar, text, nodes):
    """The stack with the places of the choices of the nodes pushed, the one popped last first."""
    totals = totals_of(grammar, text)
    pushes = []
    waiting = [(0, 0, len(text))]
    for node, lengths in zip(nodes, lengths_of_nodes(grammar, nodes)):
        span = waiting.pop()
        choices = choices_at(grammar, text, totals, span)
        place = [told[:2] for told in choices].index((node[1], lengths))
        pushes.append((lowest_shares(weights_of(choices)), place))
        below = spans_below(body_of(grammar, node), lengths, span[1])
        waiting.extend(below[::-1])
    result = stack
    for table, place in pushes[::-1]:
        result = pushed_by(result, table, place)
    return result


def parses_of(grammar, text):
    """A list of all parses of the grammar with this text, each once."""
    need(is_full_grammar(grammar), "grammar")
    need(is_row(text), "text")
    return parses_at(grammar, text, totals_of(grammar, text), (0, 0, len(text)))


def chance_parsed(grammar, text):
    """The sum of the chances of all parses of the text, nought if there are none."""
    need(is_full_grammar(grammar), "grammar")
    need(is_row(text), "text")
    return whole_total(totals_of(grammar, text), text)


def push_parsed(stack, grammar, text):
    """The stack with the text pushed, its parse popped on the way."""
    need(is_number(stack), "stack")
    need(is_full_grammar(grammar) and is_ending_grammar(grammar), "grammar")
    need(is_row(text), "text")
    totals = totals_of(grammar, text)
    need(whole_total(totals, text) != NOUGHT, "text")
    nodes, left = popped_choices(stack, grammar, text, totals)
    return pushed_nodes(left, grammar, nodes)


def pop_parsed(stack, grammar):
    """The text of a parse popped by the grammar, and the stack with the choice of the parse pushed back."""
    need(is_number(stack), "stack")
    need(is_full_grammar(grammar) and is_ending_grammar(grammar), "grammar")
    nodes, left = popped_nodes(stack, grammar)
    text = text_of_nodes(grammar, nodes)
    need(len(text) <= MOST_LETTERS, "stack")
    return text, pushed_choices(left, grammar, text, nodes)
