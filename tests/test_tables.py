import itertools
import unittest

from pushedback.tablecoder import pop_by, push_by
from pushedback.tables import ahead_of, is_strip, is_table, letters_of, strip_of, sum_of, table_of
from tests.refusals import NO_NUMBER, NO_STRIP, NO_TABLE, check_refusals

BIG = 10 ** 60 + 7
TABLES = ((1,), (2, 1, 1), (0, 3), (0, 0, 2, 1), (1, 0, 0, 4), (5, 0))


def said_over(strip, many):
    """The first so many letters of the strip said over and over."""
    return [strip[place % len(strip)] for place in range(many)]


class TablesTest(unittest.TestCase):
    def test_is_table(self):
        for thing in TABLES + ((BIG,), (0, BIG), (1,) * 100):
            self.assertIs(is_table(thing), True)
        for thing in NO_TABLE:
            self.assertIs(is_table(thing), False, thing)

    def test_is_strip(self):
        for thing in ((0,), (0, 0), (BIG, 1), (2, 0, 1)):
            self.assertIs(is_strip(thing), True)
        for thing in NO_STRIP:
            self.assertIs(is_strip(thing), False, thing)

    def test_parts(self):
        for table in TABLES:
            self.assertEqual(sum_of(table), sum(table))
            self.assertEqual(letters_of(table), tuple(k for k, count in enumerate(table) if count))
            strip = strip_of(table)
            self.assertEqual(list(strip), sorted(strip))
            self.assertEqual(tuple(strip.count(k) for k in range(len(table))), table)
            for letter in letters_of(table):
                self.assertEqual(ahead_of(table, letter), strip.index(letter))

    def test_table_of(self):
        self.assertEqual(table_of((0, 1, 0, 1)), (2, 2))
        self.assertEqual(table_of((3,)), (0, 0, 0, 1))
        self.assertEqual(table_of((2, 0, 2)), (1, 0, 2))
        for table in TABLES[:-1]:
            self.assertEqual(table_of(strip_of(table)), table)
        self.assertEqual(table_of(strip_of((5, 0))), (5,))

    def test_refusals(self):
        for function in (sum_of, letters_of, strip_of):
            check_refusals(self, function, {"table": (2, 1, 1)}, {"table": NO_TABLE})
        letters = NO_NUMBER + (1, 3, BIG)
        check_refusals(self, ahead_of, {"table": (2, 0, 1), "letter": 2}, {"table": NO_TABLE, "letter": letters})
        check_refusals(self, table_of, {"strip": (2, 0, 1)}, {"strip": NO_STRIP})


class TablecoderTest(unittest.TestCase):
    def test_by_the_strip_said_over(self):
        for table in TABLES:
            said = said_over(strip_of(table), 60)
            for stack in range(60):
                letter = said[stack]
                self.assertEqual(pop_by(stack, table), (letter, said[:stack].count(letter)))
            for letter in letters_of(table):
                places = [place for place, one in enumerate(said) if one == letter]
                for stack, place in enumerate(places):
                    self.assertEqual(push_by(stack, table, letter), place)

    def test_undone_and_not_below_the_stack(self):
        for table in TABLES + ((999,) * 8, (1, BIG, 3)):
            for stack in (0, 1, 5, BIG, BIG + 1, BIG + 2):
                letter, left = pop_by(stack, table)
                self.assertEqual(push_by(left, table, letter), stack)
                self.assertTrue(left <= stack)
                for other in letters_of(table):
                    pushed = push_by(stack, table, other)
                    self.assertEqual(pop_by(pushed, table), (other, stack))
                    self.assertTrue(pushed >= stack)

    def test_one_to_one(self):
        for table in TABLES:
            pairs = itertools.product(letters_of(table), range(30))
            pushed = [push_by(stack, table, letter) for letter, stack in pairs]
            self.assertEqual(len(set(pushed)), len(pushed))

    def test_refusals(self):
        letters = NO_NUMBER + (1, 3, BIG)
        check_refusals(
            self, push_by, {"stack": 5, "table": (2, 0, 1), "letter": 2},
            {"stack": NO_NUMBER, "table": NO_TABLE, "letter": letters})
        check_refusals(self, pop_by, {"stack": 5, "table": (2, 0, 1)}, {"stack": NO_NUMBER, "table": NO_TABLE})


if __name__ == "__main__":
    unittest.main()
