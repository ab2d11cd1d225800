import itertools
import unittest
from fractions import Fraction

from pushedback.errors import NotUsable
from pushedback.grammars import ends_always, made_to_end
from pushedback.kinds import is_quotient
from pushedback.parses import chance_of_parse, is_parse, pop_parse, push_parse, text_of_parse
from tests import parsings
from tests.parsings import BIG, EMPTY, ENDING, HALF, LOOP, MANY, NARROW, TWOS, small_parses
from tests.refusals import NO_NUMBER, check_refusals, refused_word
from tests.test_grammars import NO_GRAMMAR

NO_PARSE = (
    None, True, 0, "", (), [], (0,), (0, (), ()), [0, ()], (0, []), (0, None), (True, ()), ("0", ()), (-1, ()),
    (2, ()), (1, ()), (1, ((0, ()),)), (1, ((0, ()), (0, ()), (0, ()))), (1, ((0, ()), 0)), (1, ((0, ()), (2, ()))),
    (1, ((0, ()), (False, ()))), (1, ((0, ()), [0, ()])), (1, [(0, ()), (0, ())]), (0, ((0, ()),)), (BIG, ()),
    (1, ((0, ()), (1, ((0, ()),)))), ((), 0), (1, (0, 0)), (1, ((0, ()), ())),
)
# the symbol 0 takes one rule of each stack, the other symbol two
RINGS = (((1, (-2, 0)),), ((1, (-3, -3)), (1, ())), ((1, (3,)), (0, (-1,))))


def nested(many):
    """A parse of NARROW of so many nodes, one within the other."""
    parse = (0, ())
    for _ in range(many - 1):
        parse = (1, (parse,))
    return parse


class ParsesTest(unittest.TestCase):
    def test_is_parse(self):
        for grammar in ENDING + (LOOP,):
            for parse in small_parses(grammar, 0, 5):
                self.assertIs(is_parse(grammar, parse), True, (grammar, parse))
        for thing in NO_PARSE:
            self.assertIs(is_parse(TWOS, thing), False, thing)
        # a rule of count 0
        self.assertIs(is_parse(LOOP, (0, ((0, ()),))), False)
        self.assertIs(is_parse(LOOP, (0, ((2, ()),))), True)
        self.assertIs(is_parse(LOOP, (0, ((1, ((1, ()),)),))), True)
        # the parse of another symbol
        self.assertIs(is_parse(RINGS, (0, ((0, ((0, ()), (0, ()))),))), True)
        self.assertIs(is_parse(RINGS, (0, ((0, ((0, ()), (1, ()))),))), False)
        self.assertIs(is_parse(RINGS, (0, ((0, ()),))), False)
        self.assertIs(is_parse(RINGS, (0, ((1, ()),))), True)
        self.assertIs(is_parse(grammar=TWOS, thing=(0, ())), True)
        # also what is deeper and wider than what is popped
        self.assertIs(is_parse(NARROW, nested(600)), True)
        self.assertIs(is_parse(NARROW, (1, (nested(300)[1],))), False)

    def test_just_the_parses(self):
        for grammar in (TWOS, LOOP, EMPTY):
            parses = small_parses(grammar, 0, 4)
            parts = [(rule, row) for rule in range(3) for row in ((), ((0, ()),), ((1, ()),), ((0, ()), (0, ())))]
            for rule in range(3):
                for many in range(3):
                    for row in itertools.product(parts, repeat=many):
                        self.assertEqual(
                            is_parse(grammar, (rule, row)),
                            (rule, row) in parses or (rule, row) in small_parses(grammar, 0, 7), (rule, row))

    def test_texts_and_chances(self):
        for grammar in ENDING + (LOOP,):
            for parse in small_parses(grammar, 0, 5):
                told = text_of_parse(grammar, parse)
                self.assertIs(type(told), tuple)
                self.assertEqual(told, parsings.text(grammar, 0, parse))
                chance = chance_of_parse(grammar, parse)
                self.assertIs(is_quotient(chance), True)
                self.assertEqual(Fraction(*chance), parsings.chance(grammar, 0, parse))
        self.assertEqual(text_of_parse(MANY, (2, ())), (BIG,))
        self.assertEqual(text_of_parse(grammar=EMPTY, parse=(0, ())), ())
        self.assertEqual(text_of_parse(MANY, (4, ((0, ()), (1, ()), (0, ())))), (0, 1, 0, 0, 0))
        self.assertEqual(chance_of_parse(MANY, (4, ((0, ()), (1, ()), (0, ())))), (1, 8 * 7 * 7 * 7 // 4))
        self.assertEqual(text_of_parse(NARROW, nested(60)), (0,) + (1,) * 59)
        self.assertEqual(chance_of_parse(grammar=NARROW, parse=nested(60)), (98 ** 59, 99 ** 60))

    def test_chances_come_to_at_most_one(self):
        for grammar in ENDING:
            parses = small_parses(grammar, 0, 7)
            self.assertEqual(len(parses), len(set(parses)))
            self.assertLessEqual(sum(Fraction(*chance_of_parse(grammar, parse)) for parse in parses), 1)
        self.assertLessEqual(sum(Fraction(*chance_of_parse(HALF, parse)) for parse in small_parses(HALF, 0, 11)),
                             Fraction(1, 2))

    def test_popping(self):
        for grammar in ENDING:
            for stack in list(range(300)) + [10 ** 20 + at for at in range(20)] + [BIG, 7 * BIG]:
                try:
                    told = pop_parse(stack, grammar)
                except NotUsable as error:
                    self.assertEqual((error.word, error.at), ("stack", -1))
                    self.assertEqual(parsings.rules_popped(stack, grammar, 201), 201)
                    continue
                self.assertLessEqual(parsings.rules_popped(stack, grammar, 201), 200)
                self.assertIs(type(told), tuple)
                self.assertEqual(told, parsings.popped(stack, grammar, 0))
                self.assertEqual(push_parse(told[1], grammar, told[0]), stack)
        self.assertEqual(pop_parse(5, TWOS), ((1, ((0, ()), (0, ()))), 1))
        self.assertEqual(pop_parse(stack=0, grammar=TWOS), ((0, ()), 0))

    def test_pushing(self):
        for grammar in ENDING:
            for parse in small_parses(grammar, 0, 6)[:60]:
                growth = 1 / Fraction(*chance_of_parse(grammar, parse))
                for stack in (0, 1, 2, 13, BIG):
                    after = push_parse(stack, grammar, parse)
                    self.assertEqual(pop_parse(after, grammar), (parse, stack))
                    self.assertGreaterEqual(after, stack)
                # by so many stacks more the growth is met just so
                wide = 1
                for symbol in grammar:
                    wide *= sum(count for count, body in symbol) ** 6
                    for count, body in symbol:
                        wide *= max(count, 1) ** 6
                told = push_parse(5 + wide, grammar, parse) - push_parse(5, grammar, parse)
                self.assertEqual(told, growth * wide)
        self.assertEqual(push_parse(stack=1, grammar=TWOS, parse=(1, ((0, ()), (0, ())))), 5)

    def test_two_hundred_rules(self):
        for many, fits in ((198, True), (199, True), (200, False), (201, False)):
            grammar = (((1, (-2,) * many),), ((1, (0,)), (1, (1,))))
            if fits:
                parse, left = pop_parse(BIG ** 2, grammar)
                self.assertEqual(parsings.parse_nodes(parse), many + 1)
                self.assertEqual(push_parse(left, grammar, parse), BIG ** 2)
            else:
                self.assertEqual(refused_word(pop_parse, BIG ** 2, grammar), "stack")
                # pushing is not refused for it
                parse = (0, ((1, ()),) * many)
                self.assertGreater(push_parse(0, grammar, parse), 2 ** many - 2)
        # for ever, but for the two hundred
        self.assertEqual(refused_word(pop_parse, 10 ** 999 - 1, (((1, (0,)), (1, (-1, -1))),)), "stack")
        deep = push_parse(3, NARROW, nested(60))
        self.assertEqual(pop_parse(deep, NARROW), (nested(60), 3))

    def test_ends(self):
        for grammar in (LOOP, (((1, (-1,)),),), (((1, (-2,)),), ((1, (-2,)), (1, ())))):
            self.assertIs(ends_always(grammar), False)
            self.assertEqual(refused_word(pop_parse, 5, grammar), "grammar")
            for parse in [None] + small_parses(grammar, 0, 5)[:2]:
                self.assertEqual(refused_word(push_parse, 5, grammar, parse), "grammar")
        made = made_to_end(LOOP)
        for stack in range(200):
            parse, left = pop_parse(stack, made)
            self.assertEqual(push_parse(left, made, parse), stack)

    def test_refusals(self):
        going = NO_GRAMMAR + (LOOP, (((1, (-1,)), (1, (0,))),))
        check_refusals(self, is_parse, {"grammar": TWOS, "thing": (0, ())}, {"grammar": NO_GRAMMAR})
        for function in (text_of_parse, chance_of_parse):
            check_refusals(
                self, function, {"grammar": TWOS, "parse": (0, ())}, {"grammar": NO_GRAMMAR, "parse": NO_PARSE})
        check_refusals(
            self, push_parse, {"stack": 5, "grammar": TWOS, "parse": (0, ())},
            {"stack": NO_NUMBER, "grammar": going, "parse": NO_PARSE})
        check_refusals(self, pop_parse, {"stack": 5, "grammar": TWOS}, {"stack": NO_NUMBER, "grammar": going})
        # more than two hundred rules is asked last
        self.assertEqual(refused_word(pop_parse, 10 ** 999 - 1, LOOP), "grammar")


if __name__ == "__main__":
    unittest.main()
