import itertools
import math
import unittest
from fractions import Fraction

from pushedback.grammars import ends_always
from pushedback.errors import NotUsable
from pushedback.parses import chance_of_parse, is_parse, pop_parse, push_parse, text_of_parse
from pushedback.parsing import chance_parsed, parses_of, pop_parsed, push_parsed
from tests import parsings
from tests.parsings import BIG, EMPTY, FULL, HALF, LOOP, MANY, TWOS
from tests.refusals import NO_NUMBER, NO_ROW, check_refusals, refused_word
from tests.test_grammars import NO_GRAMMAR

NO_FULL = NO_GRAMMAR + (LOOP, EMPTY, (((1, ()),),), (((1, (0,)), (0, (-1,))),), (((1, (0,)),), ((1, (-1,)),)))
# full, but it goes on for ever
GOING = (((1, (-1, -1)), (1, (0,))),)
# four symbols, all kinds of bodies, a text of many parses
WIDE = (
    ((1, (-2, -3)), (2, (-1, 5, -2)), (3, (-2, -2, -2, -2)), (1, (0,))),
    ((2, (0,)), (1, (0, -3)), (1, (-2, -2)), (1, (0,))),
    ((3, (0,)), (1, (5,)), (0, (5,)), (2, (-4, 0))),
    ((1, (0, 0)), (4, (5, -3))),
)
# a symbol that is met has no parse, so neither have the rules with it
BARREN = (((1, (0, 0)), (3, (-2, 0)), (1, (0, 0, -1))), ((1, (-2, 1)),))


def leaves(grammar, symbol, part):
    """The parses of a symbol with this text, by trying all ways in which the text can be cut."""
    found = []
    for rule, (count, body) in enumerate(grammar[symbol]):
        below = parsings.symbols_of(body)
        if count:
            for lengths in itertools.product(range(1, len(part) + 1), repeat=len(below)):
                parts = parts_by(part, body, lengths)
                if parts is not None:
                    rows = [leaves(grammar, one, own) for one, own in zip(below, parts)]
                    found += [(rule, row) for row in itertools.product(*rows)]
    return found


def parts_by(part, body, lengths):
    """The parts of the symbols of a body, None if the lengths do not fit."""
    if sum(lengths) + len(body) - len(lengths) != len(part):
        return None
    left, parts = list(lengths), []
    for own in body:
        if own < 0:
            wide = left.pop(0)
            parts.append(part[:wide])
            part = part[wide:]
        elif part[0] != own:
            return None
        else:
            part = part[1:]
    return parts


def total(grammar, symbol, part):
    return sum(parsings.chance(grammar, symbol, parse) for parse in leaves(grammar, symbol, part))


def choices(grammar, symbol, part):
    """The choices of weights above 0, ascending, with their weights."""
    table = [count for count, body in grammar[symbol]]
    found = {}
    for rule, (count, body) in enumerate(grammar[symbol]):
        below = parsings.symbols_of(body)
        for lengths in itertools.product(range(1, len(part) + 1), repeat=len(below)):
            parts = parts_by(part, body, lengths)
            if parts is not None:
                weight = Fraction(count, sum(table))
                for one, own in zip(below, parts):
                    weight *= total(grammar, one, own)
                if weight:
                    found[rule, lengths] = weight
    return [(choice, found[choice]) for choice in sorted(found)]


def whole_numbers(weights):
    """The lowest whole numbers of the weights."""
    bottom = 1
    for weight in weights:
        bottom *= weight.denominator
    shared = [int(weight * bottom) for weight in weights]
    return [number // math.gcd(*shared) for number in shared]


def popped_parse(stack, grammar, symbol, part):
    """A parse of the part popped node by node by the definition."""
    told = choices(grammar, symbol, part)
    place, stack = parsings.by_strip(stack, whole_numbers([weight for choice, weight in told]))
    rule, lengths = told[place][0]
    body = grammar[symbol][rule][1]
    row = []
    for one, own in zip(parsings.symbols_of(body), parts_by(part, body, lengths)):
        parse, stack = popped_parse(stack, grammar, one, own)
        row.append(parse)
    return (rule, tuple(row)), stack


CASES = (
    (TWOS, ((0,), (0, 0), (0,) * 3, (0,) * 5)),
    (HALF, ((0,) * 4,)),
    (MANY, ((BIG,), (1, 0), (1, 0, 0), (1, 0, BIG), (1, 0, 1, 0), (0, 1, 0, 0, 0), (1, 0, 0, 1, 0, 0))),
    (WIDE, ((0,), (0, 0), (0, 5), (0, 0, 0), (0, 0, 0, 0), (0, 5, 0, 0), (0, 0, 0, 5, 0), (0, 0, 0, 0, 0, 0))),
    (BARREN, ((0, 0), (0, 0, 0, 0))),
)
NONE = (
    (TWOS, (), (1,), (0, 1), (BIG, 0, 0)), (MANY, (0,), (1, 1), (BIG, BIG), (1, 0, 1)), (WIDE, (5,), (5, 5), ()),
    (BARREN, (0,), (0, 1), (0,) * 3),
)


class ParsingTest(unittest.TestCase):
    def test_parses(self):
        for grammar, texts in CASES:
            for text in texts:
                told = parses_of(grammar, text)
                self.assertIs(type(told), list)
                self.assertEqual(sorted(told), sorted(leaves(grammar, 0, text)), (grammar, text))
                self.assertEqual(len(told), len(set(told)))
                self.assertTrue(told, text)
                for parse in told:
                    self.assertIs(is_parse(grammar, parse), True)
                    self.assertEqual(text_of_parse(grammar, parse), text)
                self.assertIsNot(parses_of(grammar, text), told)
                chance = sum(Fraction(*chance_of_parse(grammar, parse)) for parse in told)
                self.assertEqual(chance_parsed(grammar, text), (chance.numerator, chance.denominator))
        self.assertEqual(sorted(parses_of(grammar=TWOS, text=(0, 0))), [(1, ((0, ()), (0, ())))])
        # as many as there are ways to put brackets
        self.assertEqual([len(parses_of(TWOS, (0,) * many)) for many in range(1, 8)], [1, 1, 2, 5, 14, 42, 132])

    def test_many_parses(self):
        told = parses_of(TWOS, (0,) * 9)
        self.assertEqual((len(told), len(set(told))), (1430, 1430))
        self.assertEqual(chance_parsed(TWOS, (0,) * 10), (4862 * 2 ** 10, 3 ** 19))
        self.assertEqual(chance_parsed(HALF, (0,) * 10), (4862 * 2 ** 9, 3 ** 19))
        # symbols and parts that the text does not need may have far more parses
        lush = (((1, (0,)), (1, (-1, 1))), ((1, (0,)), (1, (1,)), (1, (-2, -2)), (1, (-2, -2))))
        self.assertEqual(len(parses_of(lush, (0,) + (1,) * 9)), 1)

    def test_no_parses(self):
        for grammar, *texts in NONE:
            for text in texts:
                self.assertEqual(parses_of(grammar, text), [])
                self.assertEqual(chance_parsed(grammar, text), (0, 1))
                if ends_always(grammar):
                    self.assertEqual(refused_word(push_parsed, 5, grammar, text), "text")

    def test_all_texts(self):
        for grammar in FULL + (WIDE, BARREN, GOING):
            known = parsings.whole_texts(grammar, 0, 5)
            for text, chance in known.items():
                self.assertEqual(Fraction(*chance_parsed(grammar, text)), chance)
                self.assertEqual(
                    chance, sum(Fraction(*chance_of_parse(grammar, parse)) for parse in parses_of(grammar, text)))
            self.assertLessEqual(sum(known.values()), 1)
            letters = sorted({part for symbol in grammar for count, body in symbol for part in body if part >= 0})
            for many in range(4):
                for text in itertools.product(letters, repeat=many):
                    self.assertEqual(chance_parsed(grammar, text) != (0, 1), text in known)

    def test_pushing(self):
        for grammar, texts in CASES:
            if not ends_always(grammar):
                continue
            for text in texts:
                for stack in list(range(9)) + [BIG, 10 ** 300 + 7]:
                    parse, left = popped_parse(stack, grammar, 0, text)
                    after = push_parsed(stack, grammar, text)
                    self.assertEqual(after, push_parse(left, grammar, parse), (grammar, text, stack))
                    self.assertEqual(pop_parsed(after, grammar), (text, stack))
        self.assertEqual(push_parsed(stack=1, grammar=TWOS, text=(0, 0, 0)), 8)
        self.assertEqual(pop_parsed(stack=8, grammar=TWOS), ((0, 0, 0), 1))

    def test_popping(self):
        for grammar in FULL + (WIDE,):
            refused = 0
            for stack in list(range(500)) + [BIG + at for at in range(30)]:
                try:
                    text, left = pop_parsed(stack, grammar)
                except NotUsable as error:
                    self.assertEqual((error.word, error.at), ("stack", -1))
                    if parsings.rules_popped(stack, grammar, 201) <= 200:
                        self.assertGreater(len(text_of_parse(grammar, pop_parse(stack, grammar)[0])), 10)
                    refused += 1
                    continue
                self.assertIs(type(text), tuple)
                self.assertEqual(text, text_of_parse(grammar, pop_parse(stack, grammar)[0]))
                self.assertEqual(push_parsed(left, grammar, text), stack)
            self.assertLess(refused, 500)

    def test_growth(self):
        for grammar, text in ((TWOS, (0, 0, 0, 0)), (MANY, (0, 1, 0, 0, 0)), (WIDE, (0, 0, 0, 0))):
            growth = 1 / Fraction(*chance_parsed(grammar, text))
            self.assertGreater(len(parses_of(grammar, text)), 1)
            for begin in (0, 10 ** 40):
                told = push_parsed(begin + 10 ** 30, grammar, text) - push_parsed(begin, grammar, text)
                self.assertLess(abs(told - growth * 10 ** 30), 10 ** 6)

    def test_ten_letters_and_eleven(self):
        for many in (9, 10, 11, 12):
            # one letter takes the first rule, each one more the second rule of two
            grammar = (((1, (0,)), (1, (1, -1))),)
            text = (1,) * (many - 1) + (0,)
            parse = (0, ())
            for _ in range(many - 1):
                parse = (1, (parse,))
            stack = push_parse(77, grammar, parse)
            self.assertEqual(parses_of(grammar, text), [parse])
            if many <= 10:
                self.assertEqual(pop_parsed(stack, grammar), (text, 77))
                self.assertEqual(push_parsed(77, grammar, text), stack)
            else:
                self.assertEqual(refused_word(pop_parsed, stack, grammar), "stack")
        for stack in range(50):
            self.assertEqual(pop_parsed(push_parsed(stack, TWOS, (0,) * 10), TWOS), ((0,) * 10, stack))

    def test_ends(self):
        # of a grammar that goes on for ever there are parses and chances, but no pushing
        self.assertEqual(parses_of(GOING, (0,)), [(1, ())])
        self.assertEqual(chance_parsed(GOING, (0, 0)), (1, 8))
        self.assertEqual(refused_word(push_parsed, 5, GOING, (0,)), "grammar")

    def test_refusals(self):
        unended = NO_FULL + (GOING, (((1, (0,)), (1, (-2, 0))), ((1, (-2, 1)),)))
        for function in (parses_of, chance_parsed):
            check_refusals(
                self, function, {"grammar": TWOS, "text": (0, 0)}, {"grammar": NO_FULL, "text": NO_ROW})
        check_refusals(
            self, push_parsed, {"stack": 5, "grammar": TWOS, "text": (0, 0)},
            {"stack": NO_NUMBER, "grammar": unended, "text": NO_ROW + ((), (1,), (0, BIG))})
        check_refusals(self, pop_parsed, {"stack": 5, "grammar": TWOS}, {"stack": NO_NUMBER, "grammar": unended})


if __name__ == "__main__":
    unittest.main()
