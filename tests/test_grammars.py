import itertools
import unittest

from pushedback.grammarkinds import is_full, is_grammar
from pushedback.grammars import ends_always, made_to_end, met_symbols
from tests.refusals import check_refusals

BIG = 10 ** 59 + 7
TWOS = (((2, (0,)), (1, (-1, -1))),)
LOOP = (((1, (-2, 0)), (1, (1,))), ((0, (2,)), (3, (-1,)), (1, (0,))))
# the bodies of which the small grammars of two symbols are made
BODIES = ((0,), (-1,), (-2,), (-2, 1), (-1, -2), ())
NO_GRAMMAR = (
    None, True, 0, "", (), [], ((),), (((1, (0,)),), ()), [((1, (0,)),)], ([(1, (0,))],), (([1, (0,)],),),
    (((1, [0]),),), (((1, 0),),), (((1,),),), (((1, (0,), 0),),), (((0, (0,)),),), (((0, (0,)), (0, ())),),
    (((-1, (0,)), (1, ())),), (((True, (0,)),),), (((1, (True,)),),), (((1, (None,)),),), (((1, ("0",)),),),
    (((1, ((0,),)),),), (((1, (-2,)),),), (((1, (0,)),), ((1, (-3,)),)), (((1, (0,)), (0, (-2,))),), ((1, (0,)),),
    (((1, (-BIG,)),),), (((1, (0,)),), None), (((1, (0,)),), ((0, (0,)),)), ("ab",), (((1, "0"),),),
)
GRAMMARS = (
    TWOS, LOOP, (((1, ()),),), (((1, (-1,)),),), (((1, (-1,)), (1, ())),), (((0, (-1,)), (1, (5,))),),
    (((1, (BIG,)), (99, (0, -1, 1, -1))),), (((1, (-2,)),), ((1, (-3,)),), ((1, (-4,)),), ((1, (-1,)), (1, ()))),
    (((1, (0,)),), ((1, (-2,)),)), (((1, (0,)), (0, (-2,))), ((1, (-2,)),)), (((1, (0,)), (1, (-2,))), ((1, (-2,)),)),
    (((2, (-2, -3)),), ((1, (-3,)), (1, (0,))), ((1, (-2,)), (1, (1,)))),
    (((1, (-2, -2)), (1, (-2,))), ((1, (-1,)), (2, (-1, 0)), (1, (0, 0)))),
    (((1, (-1,)), (1, (-1,)), (1, (0,))),), (((0, (0,)), (1, (-1,)), (2, (0,))),),
    (((1, (-2,)), (1, (-3,))), ((1, (0,)),), ((1, (-1,)),)),
)


def small_grammars():
    """All grammars of two symbols with two rules each, of the counts 0 and 1."""
    rules = [(count, body) for count in (0, 1) for body in BODIES]
    symbols = [pair for pair in itertools.product(rules, repeat=2) if pair[0][0] or pair[1][0]]
    return itertools.product(symbols, repeat=2)


def met(grammar):
    """The symbols that are met, by going on until no more come."""
    known = {0}
    while True:
        more = {
            -1 - part for symbol in known for count, body in grammar[symbol] if count for part in body if part < 0}
        if more <= known:
            return tuple(sorted(known))
        known |= more


def goes_on(grammar, symbol):
    """Whether there is a way from the symbol by first rules that is longer than there are symbols."""
    ways = {symbol}
    for _ in range(len(grammar) + 1):
        firsts = [next(body for count, body in grammar[one] if count) for one in ways]
        ways = {-1 - part for body in firsts for part in body if part < 0}
    return bool(ways)


def has_parse(grammar, symbol):
    """Whether the symbol has a parse at most as many nodes deep as there are symbols."""
    finished = set()
    for _ in grammar:
        finished |= {
            one for one in range(len(grammar)) if any(
                count and all(part >= 0 or -1 - part in finished for part in body) for count, body in grammar[one])}
    return symbol in finished


class GrammarkindsTest(unittest.TestCase):
    def test_is_grammar(self):
        for grammar in itertools.chain(GRAMMARS, itertools.islice(small_grammars(), 0, None, 97)):
            self.assertIs(is_grammar(grammar), True, grammar)
        for thing in NO_GRAMMAR:
            self.assertIs(is_grammar(thing), False, thing)
        self.assertIs(is_grammar(thing=TWOS), True)

    def test_is_full(self):
        for grammar, told in (
            (TWOS, True), (LOOP, False), ((((1, (0,)),),), True), ((((1, ()),),), False), ((((1, (-1, 0)),),), True),
            ((((1, (0,)), (0, ())),), False), ((((1, (0,)), (0, (-1,))),), False), ((((1, (0,)), (1, (0, -1))),), True),
            ((((1, (0,)),), ((1, (-1,)),)), False), ((((1, (0,)),), ((1, (0,)), (0, ()))), False),
            ((((1, (0,)),), ((1, (-1, -2)), (1, (BIG,)))), True), ((((1, (-1, -1)),),), True),
        ):
            self.assertIs(is_full(grammar), told, grammar)

    def test_refusals(self):
        for function in (is_full, met_symbols, ends_always, made_to_end):
            check_refusals(self, function, {"grammar": LOOP}, {"grammar": NO_GRAMMAR})


class GrammarsTest(unittest.TestCase):
    def check(self, grammar):
        told = met(grammar)
        self.assertEqual(met_symbols(grammar), told)
        ends = not any(goes_on(grammar, symbol) for symbol in told)
        self.assertIs(ends_always(grammar), ends, grammar)
        made = made_to_end(grammar)
        self.assertEqual(made is not None, all(has_parse(grammar, symbol) for symbol in told), grammar)
        if made is not None:
            self.assertIs(is_grammar(made), True)
            self.assertEqual(len(made), len(grammar))
            for symbol, own in zip(made, grammar):
                self.assertEqual(sorted(symbol), sorted(own))
            self.assertFalse(any(goes_on(made, symbol) for symbol in met(made)), (grammar, made))
            self.assertIs(ends_always(made), True)
        else:
            self.assertIs(ends, False)

    def test_grammars(self):
        for grammar in GRAMMARS:
            self.check(grammar)

    def test_small_grammars(self):
        for grammar in small_grammars():
            self.check(grammar)

    def test_grammars_of_four_symbols(self):
        bodies = ((0,), (-1, -2), (-3, 1), (-4,), (-2, -4), (-3, -3, 0, -1), ())
        rows = list(itertools.product(bodies, repeat=2))
        for at in range(600):
            places = [(at * step + at * at) % len(rows) for step in (1, 5, 11, 23)]
            grammar = tuple(
                ((at % 2 + number % 3 % 2, rows[place][0]), (1, rows[place][1])) for number, place in enumerate(places))
            self.check(grammar)

    def test_edges(self):
        self.assertEqual(met_symbols(LOOP), (0, 1))
        self.assertEqual(met_symbols((((1, (0,)), (0, (-2,))), ((1, (-2,)),))), (0,))
        self.assertEqual(met_symbols((((1, (-4,)),), ((1, ()),), ((1, ()),), ((1, (-2,)),))), (0, 1, 3))
        # a symbol that is not met may go on for ever
        self.assertIs(ends_always((((1, (0,)), (0, (-2,))), ((1, (-2,)),))), True)
        # the first rule is the first one with a count above 0
        self.assertIs(ends_always((((0, (-1,)), (1, (5,))),)), True)
        self.assertIs(ends_always((((0, (5,)), (1, (-1,))),)), False)
        self.assertIs(ends_always((((1, (5,)), (1, (-1,))),)), True)
        # a rule of count 0 ends nothing
        self.assertIsNone(made_to_end((((1, (-1,)), (0, (5,))),)))
        self.assertIsNone(made_to_end((((1, (-2,)), (1, (0,))), ((1, (-2,)),))))
        self.assertIs(ends_always(made_to_end((((0, (5,)), (1, (-1,)), (1, (5,))),))), True)


if __name__ == "__main__":
    unittest.main()
