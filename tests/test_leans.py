import unittest
from fractions import Fraction

from pushedback.leans import chance_of, is_lean, lean_after, lean_back, lean_holds, lean_of
from pushedback.rowcoder import lean_of_row
from pushedback.strips import push_strip
from pushedback.tablecoder import push_by
from pushedback.tables import letters_of, strip_of
from tests.refusals import NO_NUMBER, NO_STRIP, NO_TABLE, NO_TUPLE, check_refusals

BIG = 10 ** 60 + 7
STRIPS = ((0,), (0, 0, 1, 2), (0, 1, 0, 1), (2, 0, 2, 2, 0), (7, 7), (1, 0, 0, 0, 1, 0, 1))
NO_LEAN = NO_TUPLE + (
    (), ((1, 1), (0, 1)), ((1, 1), (0, 1), (0, 1), (0, 1)), ((0, 1), (0, 1), (0, 1)), ((-1, 1), (0, 1), (0, 1)),
    ((1, 1), (1, 2), (1, 3)), ((2, 2), (0, 1), (0, 1)), ((1, 1), 0, (0, 1)), ((1, 1), (0, 1), [0, 1]),
    [(1, 1), (0, 1), (0, 1)], ((1, 1), (0, 1), (True, 1)), (1, 0, 0),
)
SOME = (
    ((1, 1), (0, 1), (0, 1)), ((2, 1), (-1, 1), (0, 1)), ((3, 2), (-7, 3), (5, 4)), ((1, 3), (1, 2), (1, 2)),
    ((BIG, 2), (-BIG, 3), (1, BIG)),
)


def fractions_of(lean):
    return [Fraction(top, bottom) for top, bottom in lean]


def pairs_of(numbers):
    return tuple((number.numerator, number.denominator) for number in numbers)


class LeansTest(unittest.TestCase):
    def test_is_lean(self):
        for thing in SOME:
            self.assertIs(is_lean(thing), True)
        for thing in NO_LEAN:
            self.assertIs(is_lean(thing), False, thing)

    def test_chance_of(self):
        for table in ((2, 1, 1), (0, 3), (4, 0, 2), (BIG, BIG)):
            for letter in letters_of(table):
                chance = Fraction(table[letter], sum(table))
                self.assertEqual(chance_of(table, letter), (chance.numerator, chance.denominator))

    def test_lean_of_is_met_and_holds(self):
        for strip in STRIPS:
            for letter in set(strip):
                growth = Fraction(len(strip), strip.count(letter))
                over = [push_strip(stack, strip, letter) - growth * stack for stack in range(40)]
                lean = lean_of(strip, letter)
                self.assertEqual(lean, pairs_of((growth, min(over), max(over))))
                for stack in list(range(20)) + [BIG]:
                    self.assertTrue(lean_holds(lean, stack, push_strip(stack, strip, letter)))

    def test_lean_of_a_table(self):
        for table in ((2, 1, 1), (0, 3, 2), (4, 0, 2), (1, 5)):
            for letter in letters_of(table):
                size, count, ahead = sum(table), table[letter], sum(table[:letter])
                low = ahead - Fraction((size - count) * (count - 1), count)
                told = pairs_of((Fraction(size, count), low, Fraction(ahead)))
                self.assertEqual(lean_of(strip_of(table), letter), told)
                self.assertEqual(lean_of_row((table,), (letter,)), told)

    def test_after_and_back(self):
        for one in SOME:
            growth, low, high = fractions_of(one)
            self.assertEqual(lean_back(one), pairs_of((1 / growth, -high / growth, -low / growth)))
            self.assertEqual(lean_back(lean_back(one)), one)
            for other in SOME:
                grown, least, most = fractions_of(other)
                told = pairs_of((growth * grown, grown * low + least, grown * high + most))
                self.assertEqual(lean_after(one, other), told)

    def test_after_holds_for_both_pushes(self):
        for table in ((2, 1, 1), (1, 3)):
            for strip in STRIPS:
                for letter in letters_of(table):
                    for other in set(strip):
                        lean = lean_after(lean_of(strip_of(table), letter), lean_of(strip, other))
                        for stack in range(30):
                            pushed = push_strip(push_by(stack, table, letter), strip, other)
                            self.assertTrue(lean_holds(lean, stack, pushed))

    def test_lean_holds(self):
        for lean in SOME[:4]:
            growth, low, high = fractions_of(lean)
            for stack in range(8):
                for after in range(24):
                    told = growth * stack + low <= after <= growth * stack + high
                    self.assertIs(lean_holds(lean, stack, after), told)
                    self.assertIs(lean_holds(lean_back(lean), after, stack), told)
        self.assertIs(lean_holds(((2, 1), (0, 1), (0, 1)), BIG, 2 * BIG), True)
        self.assertIs(lean_holds(((2, 1), (0, 1), (0, 1)), BIG, 2 * BIG + 1), False)

    def test_refusals(self):
        check_refusals(
            self, chance_of, {"table": (2, 0, 1), "letter": 2},
            {"table": NO_TABLE, "letter": NO_NUMBER + (1, 3, BIG)})
        check_refusals(
            self, lean_of, {"strip": (0, 2, 0), "letter": 2}, {"strip": NO_STRIP, "letter": NO_NUMBER + (1, 3)})
        check_refusals(
            self, lean_after, {"one": SOME[1], "other": SOME[2]}, {"one": NO_LEAN, "other": NO_LEAN})
        check_refusals(self, lean_back, {"one": SOME[1]}, {"one": NO_LEAN})
        check_refusals(
            self, lean_holds, {"lean": SOME[1], "stack": 3, "after": 6},
            {"lean": NO_LEAN, "stack": NO_NUMBER, "after": NO_NUMBER})


if __name__ == "__main__":
    unittest.main()
