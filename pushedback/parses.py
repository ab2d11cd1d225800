"""Parses: their texts, their chances, pushing and popping them."""

from pushedback.exchanges import popped_by, pushed_by
from pushedback.grammarkinds import is_grammar, symbols_in
from pushedback.grammars import ends_always
from pushedback.guards import need
from pushedback.kinds import is_number, is_pair
from pushedback.ratios import WHOLE, ratio, ratio_product

# the most rules that popping a parse pops
MOST_RULES = 200


def rule_table(symbol):
    """The counts of the symbol's rules, in order."""
    return tuple([count for count, body in symbol])


def body_of(grammar, node):
    """The body of the rule of a node, which is a pair of a symbol and the place of one of its rules."""
    symbol, rule = node
    return grammar[symbol][rule][1]


def rule_chance(grammar, symbol, rule):
    """The count of the rule by the sum of its symbol's table."""
    table = rule_table(grammar[symbol])
    return ratio(table[rule], sum(table))


def is_node(symbol, thing):
    """Whether the thing is a pair of the place of a rule of the symbol and of a tuple, as long as it has to be."""
    if not is_pair(thing) or not is_number(thing[0]) or thing[0] >= len(symbol):
        return False
    count, body = symbol[thing[0]]
    return count > 0 and isinstance(thing[1], tuple) and len(thing[1]) == len(symbols_in(body))


def is_parse_of(grammar, thing):
    """Whether any value is a parse of a grammar that is known to be one."""
    # one by one, since parses may be nested deeper than calls should be
    waiting = [(0, thing)]
    while len(waiting) > 0:
        symbol, part = waiting.pop()
        if not is_node(grammar[symbol], part):
            return False
        rule, parts = part
        waiting.extend(list(zip(symbols_in(body_of(grammar, (symbol, rule))), parts)))
    return True


def nodes_of_parse(grammar, parse):
    """The nodes of a parse, in the sequence in which they are popped."""
    nodes = []
    waiting = [(0, parse)]
    while len(waiting) > 0:
        symbol, (rule, parts) = waiting.pop()
        nodes.append((symbol, rule))
        below = list(zip(symbols_in(body_of(grammar, (symbol, rule))), parts))
        waiting.extend(below[::-1])
    return nodes


def parse_of_nodes(grammar, nodes):
    """The parse that has these nodes."""
    # from the last one on, so that the parses of a node are there when it comes, the first one last
    parses = []
    for node in nodes[::-1]:
        parts = [parses.pop() for _ in symbols_in(body_of(grammar, node))]
        parses.append((node[1], tuple(parts)))
    return parses[0]


def text_of_nodes(grammar, nodes):
    """The text of the parse that has these nodes."""
    texts = []
    for node in nodes[::-1]:
        text = []
        for part in body_of(grammar, node):
            if part < 0:
                text.extend(texts.pop())
            else:
                text.append(part)
        texts.append(text)
    return tuple(texts[0])


def pushed_nodes(stack, grammar, nodes):
    """The stack with the places of the rules pushed, the one popped last first."""
    result = stack
    for symbol, rule in nodes[::-1]:
        result = pushed_by(result, rule_table(grammar[symbol]), rule)
    return result


def popped_nodes(stack, grammar):
    """The nodes of a parse as they are popped, and the stack that is left; a stack that takes too many is refused."""
    nodes = []
    waiting = [0]
    left = stack
    while len(waiting) > 0:
        need(len(nodes) < MOST_RULES, "stack")
        symbol = waiting.pop()
        rule, left = popped_by(left, rule_table(grammar[symbol]))
        nodes.append((symbol, rule))
        below = symbols_in(body_of(grammar, (symbol, rule)))
        waiting.extend(below[::-1])
    return nodes, left


def is_ending_grammar(thing):
    """Whether the thing is a grammar by which popping parses ends."""
    return is_grammar(thing) and ends_always(thing)


def is_parse(grammar, thing):
    """Whether any value is a parse of the grammar."""
    need(is_grammar(grammar), "grammar")
    return is_parse_of(grammar, thing)


def text_of_parse(grammar, parse):
    """The text of the parse."""
    need(is_grammar(grammar), "grammar")
    need(is_parse_of(grammar, parse), "parse")
    return text_of_nodes(grammar, nodes_of_parse(grammar, parse))


def chance_of_parse(grammar, parse):
    """The product of the chances of the rules of all nodes."""
    need(is_grammar(grammar), "grammar")
    need(is_parse_of(grammar, parse), "parse")
    chance = WHOLE
    for symbol, rule in nodes_of_parse(grammar, parse):
        chance = ratio_product(chance, rule_chance(grammar, symbol, rule))
    return chance


def push_parse(stack, grammar, parse):
    """The stack with the parse pushed."""
    need(is_number(stack), "stack")
    need(is_ending_grammar(grammar), "grammar")
    need(is_parse_of(grammar, parse), "parse")
    return pushed_nodes(stack, grammar, nodes_of_parse(grammar, parse))


def pop_parse(stack, grammar):
    """A parse of the grammar, and the stack that is left."""
    need(is_number(stack), "stack")
    need(is_ending_grammar(grammar), "grammar")
    nodes, left = popped_nodes(stack, grammar)
    return parse_of_nodes(grammar, nodes), left
