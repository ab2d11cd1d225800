import itertools
import unittest
from fractions import Fraction

from pushedback.leans import chance_of, lean_after, lean_holds, lean_of
from pushedback.rowcoder import lean_of_row, pop_letters, push_letters
from pushedback.tablecoder import pop_by, push_by
from pushedback.tables import letters_of, strip_of
from tests.refusals import NO_NUMBER, NO_TUPLE, check_refusals

BIG = 10 ** 60 + 7
ROWS = ((), ((1,),), ((2, 1, 1), (1, 1)), ((0, 3), (1, 0, 2), (2, 1)), ((2, 1),) * 4)
NO_TABLES = NO_TUPLE + ((0,), ((2, 1, 1), ()), ((0, 0),), ([1, 1],), ((1, True),), [(2, 1, 1), (1, 1)], (None,))


class RowcoderTest(unittest.TestCase):
    def test_document(self):
        tables = ((2, 1, 1), (1, 1))
        self.assertEqual(push_letters(5, tables, (0, 1)), 21)
        self.assertEqual(pop_letters(21, tables), ((0, 1), 5))
        self.assertEqual(lean_of_row(tables, (0, 1)), ((4, 1), (1, 1), (2, 1)))

    def test_order_of_steps(self):
        tables = ((2, 1, 1), (1, 3))
        first, left = pop_by(1234, tables[0])
        second, rest = pop_by(left, tables[1])
        self.assertEqual(pop_letters(1234, tables), ((first, second), rest))
        self.assertEqual(push_letters(7, tables, (2, 1)), push_by(push_by(7, tables[1], 1), tables[0], 2))

    def test_undone(self):
        for tables in ROWS:
            for stack in list(range(60)) + [BIG, BIG + 1]:
                letters, left = pop_letters(stack, tables)
                self.assertEqual(push_letters(left, tables, letters), stack)
            for letters in itertools.product(*[letters_of(table) for table in tables]):
                for stack in (0, 1, 2, 7, BIG):
                    pushed = push_letters(stack, tables, letters)
                    self.assertEqual(pop_letters(pushed, tables), (letters, stack))

    def test_no_tables(self):
        self.assertEqual(push_letters(5, (), ()), 5)
        self.assertEqual(pop_letters(5, ()), ((), 5))
        self.assertEqual(lean_of_row((), ()), ((1, 1), (0, 1), (0, 1)))

    def test_lean_of_row(self):
        for tables in ROWS:
            for letters in itertools.product(*[letters_of(table) for table in tables]):
                lean = ((1, 1), (0, 1), (0, 1))
                chance = Fraction(1)
                for table, letter in reversed(list(zip(tables, letters))):
                    lean = lean_after(lean, lean_of(strip_of(table), letter))
                    chance *= Fraction(*chance_of(table, letter))
                self.assertEqual(lean_of_row(tables, letters), lean)
                self.assertEqual(Fraction(*lean[0]) * chance, 1)
                for stack in range(20):
                    self.assertTrue(lean_holds(lean, stack, push_letters(stack, tables, letters)))

    def test_lean_of_long_strips(self):
        self.assertEqual(lean_of_row(((BIG, 1),), (0,))[0], (BIG + 1, BIG))
        self.assertEqual(lean_of_row(((BIG, 1),), (1,)), ((BIG + 1, 1), (BIG, 1), (BIG, 1)))

    def test_refusals(self):
        tables = ((2, 0, 1), (1, 1))
        letters = NO_TUPLE + (
            (), (2,), (2, 1, 0), (1, 1), (3, 1), (2, 2), (-1, 0), (0, True), (None, 0), [2, 1], ((2,), 1))
        good = {"stack": 5, "tables": tables, "letters": (2, 1)}
        check_refusals(
            self, push_letters, good, {"stack": NO_NUMBER, "tables": NO_TABLES, "letters": letters})
        check_refusals(
            self, pop_letters, {"stack": 5, "tables": tables}, {"stack": NO_NUMBER, "tables": NO_TABLES})
        check_refusals(
            self, lean_of_row, {"tables": tables, "letters": (2, 1)}, {"tables": NO_TABLES, "letters": letters})


if __name__ == "__main__":
    unittest.main()
