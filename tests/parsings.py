"""Parses reckoned by their definitions, node by node, for the tests."""

from fractions import Fraction

BIG = 10 ** 59 + 7
TWOS = (((2, (0,)), (1, (-1, -1))),)
LOOP = (((1, (-2, 0)), (1, (1,))), ((0, (2,)), (3, (-1,)), (1, (0,))))
HALF = (((1, (0,)), (2, (-1, -1))),)
# equal rules, a rule of count 0 ahead of all, symbols that are not met, letters of sixty figures
MANY = (
    ((0, (-1, -1)), (2, (1, -2)), (3, (BIG,)), (2, (1, -2)), (1, (-2, 1, -2, -2))),
    ((1, (0,)), (4, (0, 0)), (0, (7,)), (2, (-2, -1))),
    ((5, (-3, -3)),),
)
# the first rules end, though other rules have bodies without a letter and of one symbol
EMPTY = (((1, ()), (1, (-1, -2)), (2, (-2,))), ((3, (4,)), (1, (-2, -1, -2)), (1, ())))
CHAIN = (((1, (-2,)), (9, (-1, 3))), ((1, (-3,)),), ((1, (-4, -4)),), ((1, (5,)), (1, (6, -4))))
NARROW = (((1, (0,)), (98, (-1, 1))),)
FULL = (TWOS, HALF, MANY, (((1, (0,)),),), NARROW, (((1, (0, 0)), (1, (-2, 0)), (1, (0, -2))), ((2, (0,)), (1, (-1, 0)))))
ENDING = FULL + (EMPTY, CHAIN, (((1, ()),),), (((1, ()), (99, (-1, -1, -1, -1))),))


def symbols_of(body):
    return [-1 - part for part in body if part < 0]


def parse_nodes(parse):
    """How many nodes the parse has."""
    return 1 + sum(parse_nodes(part) for part in parse[1])


def text(grammar, symbol, parse):
    rule, parts = parse
    left = list(parts)
    letters = ()
    for part in grammar[symbol][rule][1]:
        letters += (part,) if part >= 0 else text(grammar, -1 - part, left.pop(0))
    return letters


def chance(grammar, symbol, parse):
    rule, parts = parse
    own = Fraction(grammar[symbol][rule][0], sum(count for count, body in grammar[symbol]))
    for below, part in zip(symbols_of(grammar[symbol][rule][1]), parts):
        own *= chance(grammar, below, part)
    return own


def small_parses(grammar, symbol, most):
    """All parses of the symbol of at most so many nodes, by trying all."""
    found = []
    if most < 1:
        return found
    for rule, (count, body) in enumerate(grammar[symbol]):
        if count:
            rows = [()]
            for below in symbols_of(body):
                rows = [
                    row + (part,) for row in rows
                    for part in small_parses(grammar, below, most - 1 - sum(parse_nodes(one) for one in row))]
            found += [(rule, row) for row in rows if 1 + sum(parse_nodes(one) for one in row) <= most]
    return found


def by_strip(stack, table):
    """The letter at the place stack of the table's strip said over and over, and how often it stands ahead of it."""
    strip = [letter for letter, count in enumerate(table) for _ in range(count)]
    letter = strip[stack % len(strip)]
    return letter, strip.count(letter) * (stack // len(strip)) + strip[:stack % len(strip)].count(letter)


def onto_strip(stack, table, letter):
    """The place at which the letter stands for the time stack."""
    strip = [letter for letter, count in enumerate(table) for _ in range(count)]
    places = [at for at, own in enumerate(strip) if own == letter]
    return len(strip) * (stack // len(places)) + places[stack % len(places)]


def popped(stack, grammar, symbol):
    """A parse of the symbol popped by the definition, and the stack that is left."""
    rule, stack = by_strip(stack, [count for count, body in grammar[symbol]])
    parts = []
    for below in symbols_of(grammar[symbol][rule][1]):
        part, stack = popped(stack, grammar, below)
        parts.append(part)
    return (rule, tuple(parts)), stack


def whole_texts(grammar, symbol, many):
    """A dict of the texts of the symbol at most so long, each with the sum of the chances of its parses; full ones."""
    known = {}
    for one in range(len(grammar)):
        known[one] = {}
    for _ in range(2 * many):
        known = {one: texts_once(grammar, one, many, known) for one in range(len(grammar))}
    return known[symbol]


def texts_once(grammar, symbol, many, known):
    """The same, told from the texts of the symbols as far as they are known."""
    table = [count for count, body in grammar[symbol]]
    texts = {}
    for count, body in grammar[symbol]:
        rows = {(): Fraction(count, sum(table))} if count else {}
        for part in body:
            behind = {(part,): Fraction(1)} if part >= 0 else known[-1 - part]
            longer = {}
            for left, own in rows.items():
                for right, more in behind.items():
                    if len(left + right) <= many:
                        longer[left + right] = longer.get(left + right, 0) + own * more
            rows = longer
        for row, own in rows.items():
            texts[row] = texts.get(row, 0) + own
    return texts


def rules_popped(stack, grammar, most):
    """How many rules popping a parse pops, but no more than most."""
    waiting = [0]
    many = 0
    while waiting and many < most:
        symbol = waiting.pop(0)
        rule, stack = by_strip(stack, [count for count, body in grammar[symbol]])
        waiting = symbols_of(grammar[symbol][rule][1]) + waiting
        many += 1
    return many
