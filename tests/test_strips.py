import itertools
import unittest

from pushedback.errors import InvalidPaper
from pushedback.sheetchecker import lets_sheet
from pushedback.strips import places_in, pop_strip, push_strip, reached, sheet_of
from pushedback.tablecoder import pop_by, push_by
from pushedback.tables import letters_of, strip_of
from tests.refusals import NO_NUMBER, NO_STRIP, check_refusals

BIG = 10 ** 60 + 7
STRIPS = tuple(
    strip for many in range(1, 5) for strip in itertools.product(range(3), repeat=many)
) + ((7,) * 3, (BIG, 1, BIG), (0, 1, 2, 3, 4, 5, 6, 7) * 8)


class StripsTest(unittest.TestCase):
    def test_by_the_strip_said_over(self):
        for strip in STRIPS:
            said = [strip[place % len(strip)] for place in range(130)]
            for stack in range(130):
                self.assertEqual(pop_strip(stack, strip), (said[stack], said[:stack].count(said[stack])))
            for letter in set(strip):
                places = [place for place, one in enumerate(said) if one == letter]
                self.assertEqual(places_in(strip, letter), tuple(p for p in places if p < len(strip)))
                for stack, place in enumerate(places):
                    self.assertEqual(push_strip(stack, strip, letter), place)
                for bound in range(0, 130, 3):
                    told = len([place for place in places if place < bound])
                    self.assertEqual(reached(strip, letter, bound), told)

    def test_undone_and_not_below_the_stack(self):
        for strip in STRIPS:
            for stack in list(range(12)) + [BIG, BIG + 1]:
                letter, left = pop_strip(stack, strip)
                self.assertEqual(push_strip(left, strip, letter), stack)
                for other in set(strip):
                    pushed = push_strip(stack, strip, other)
                    self.assertTrue(pushed >= stack)
                    self.assertEqual(pop_strip(pushed, strip), (other, stack))

    def test_consequences(self):
        for strip in STRIPS:
            for letter in set(strip):
                count = strip.count(letter)
                pushed = [push_strip(stack, strip, letter) for stack in range(20)]
                self.assertEqual(pushed, sorted(set(pushed)))
                self.assertEqual(push_strip(5 + count, strip, letter), push_strip(5, strip, letter) + len(strip))
            for bound in (0, 1, 7, 64, BIG):
                self.assertEqual(sum(reached(strip, letter, bound) for letter in set(strip)), bound)
            for stack in range(10):
                same = len({strip[place % len(strip)] for place in range(stack + 1)}) == 1
                self.assertEqual(pop_strip(stack, strip)[1] == stack, same)

    def test_strip_of_a_table(self):
        for table in ((2, 1, 1), (0, 3), (4, 0, 2)):
            for stack in list(range(20)) + [BIG]:
                self.assertEqual(pop_strip(stack, strip_of(table)), pop_by(stack, table))
                for letter in letters_of(table):
                    self.assertEqual(push_strip(stack, strip_of(table), letter), push_by(stack, table, letter))

    def test_refusals(self):
        letters = NO_NUMBER + (1, 3, BIG)
        check_refusals(
            self, push_strip, {"stack": 5, "strip": (2, 0, 2), "letter": 2},
            {"stack": NO_NUMBER, "strip": NO_STRIP, "letter": letters})
        check_refusals(self, pop_strip, {"stack": 5, "strip": (2, 0)}, {"stack": NO_NUMBER, "strip": NO_STRIP})
        check_refusals(
            self, places_in, {"strip": (2, 0, 2), "letter": 2}, {"strip": NO_STRIP, "letter": letters})
        check_refusals(
            self, reached, {"strip": (2, 0, 2), "letter": 2, "bound": 4},
            {"strip": NO_STRIP, "letter": letters, "bound": NO_NUMBER})
        check_refusals(self, sheet_of, {"strip": (2, 0, 2)}, {"strip": NO_STRIP})


class SheetTest(unittest.TestCase):
    def refused(self, thing):
        with self.assertRaises(InvalidPaper) as caught:
            lets_sheet(thing)
        return caught.exception.word, caught.exception.at

    def test_sheets(self):
        for strip in STRIPS:
            sheet = sheet_of(strip)
            self.assertEqual(sheet, tuple(pop_strip(stack, strip) for stack in range(len(strip))))
            self.assertEqual(lets_sheet(sheet), strip)
            self.assertEqual(lets_sheet(thing=sheet), strip)

    def test_shape(self):
        for thing in ((), [], [(0, 0)], None, True, 0, "", "00"):
            self.assertEqual(self.refused(thing), ("shape", -1))

    def test_elements(self):
        for odd in (None, 0, True, "00", (), (0,), (0, 0, 0), [0, 0]):
            self.assertEqual(self.refused((odd,)), ("pair", 0))
            self.assertEqual(self.refused(((0, 0), odd)), ("pair", 1))
        for odd in (None, -1, True, "0", (0,), [0]):
            self.assertEqual(self.refused(((odd, 0),)), ("letter", 0))
            self.assertEqual(self.refused(((0, 0), (odd, 7), None)), ("letter", 1))
        for odd in (None, -1, False, "0", (0,), [0], 1, BIG):
            self.assertEqual(self.refused(((0, odd),)), ("rest", 0))
        for odd in (None, -1, True, "1", (1,), [1], 0, 2, BIG):
            self.assertEqual(self.refused(((0, 0), (1, 0), (0, odd), None)), ("rest", 2))

    def test_order_of_checks(self):
        self.assertEqual(self.refused(((None, None), None)), ("letter", 0))
        self.assertEqual(self.refused(((0, 1), None)), ("rest", 0))

    def test_only_sheets_are_accepted(self):
        pairs = list(itertools.product(range(2), repeat=2))
        sheets = {sheet_of(strip) for strip in itertools.product(range(2), repeat=3)}
        for thing in itertools.product(pairs, repeat=3):
            if thing in sheets:
                self.assertEqual(sheet_of(lets_sheet(thing)), thing)
            else:
                self.assertEqual(self.refused(thing)[0], "rest")


if __name__ == "__main__":
    unittest.main()
