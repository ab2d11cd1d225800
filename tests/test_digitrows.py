import itertools
import unittest

from pushedback.digitrows import added, digits_of, number_of, row_of, stack_of, taken
from tests.refusals import NO_BASE, NO_NUMBER, NO_ROW, check_refusals, refused_word

BIG = 10 ** 60 + 7
BASES = (2, 3, 10, 256)


def rows(base, most):
    for many in range(most + 1):
        yield from itertools.product(range(base), repeat=many)


class DigitrowsTest(unittest.TestCase):
    def test_rows_in_their_order(self):
        for base, most in ((2, 7), (3, 4), (10, 2)):
            for stack, row in enumerate(rows(base, most)):
                self.assertEqual(row_of(base, stack), row)
                self.assertEqual(stack_of(base, row), stack)

    def test_beside_powers(self):
        for base in BASES:
            for many in (1, 2, 8, 60):
                begin = (base ** many - 1) // (base - 1)
                self.assertEqual(row_of(base, begin), (0,) * many)
                self.assertEqual(row_of(base, begin - 1), (base - 1,) * (many - 1))
                self.assertEqual(stack_of(base, (base - 1,) * many), begin + base ** many - 1)

    def test_undone(self):
        for base in BASES:
            for stack in (0, 1, 2, 255, BIG, 10 ** 999 + 1):
                row = row_of(base, stack)
                self.assertEqual(stack_of(base, row), stack)
                offset = sum(base ** at for at in range(len(row)))
                self.assertEqual(number_of(base, row), stack - offset)
        self.assertEqual(row_of(2, stack_of(2, (1, 0) * 1500)), (1, 0) * 1500)

    def test_digits_and_numbers(self):
        for base in BASES:
            for number in (0, 1, 5, 255, BIG):
                digits = digits_of(base, number, 300)
                self.assertEqual(len(digits), 300)
                self.assertEqual(number_of(base, digits), number)
            for many in (0, 1, 2, 5):
                self.assertEqual(digits_of(base, base ** many - 1, many), (base - 1,) * many)
                self.assertEqual(refused_word(digits_of, base, base ** many, many), "number")
        self.assertEqual(digits_of(2, 0, 0), ())
        self.assertEqual(digits_of(2, 6, 5), (0, 0, 1, 1, 0))
        self.assertEqual(number_of(2, ()), 0)
        # asked last: many is looked at ahead of it
        self.assertEqual(refused_word(digits_of, 2, 8, True), "many")
        self.assertEqual(refused_word(digits_of, 2, True, True), "number")

    def test_added_and_taken(self):
        for base in (2, 3, 10):
            for stack in (0, 1, 4, 21, BIG):
                self.assertEqual(added(base, stack, ()), stack)
                for digit in (0, base - 1):
                    self.assertEqual(added(base, stack, (digit,)), base * stack + digit + 1)
                for row in ((0,), (1, 0), (1, 1, 0, 1)):
                    whole = added(base, stack, row)
                    self.assertEqual(row_of(base, whole), row_of(base, stack) + row)
                    for cut in range(len(row) + 1):
                        self.assertEqual(added(base, added(base, stack, row[:cut]), row[cut:]), whole)
                    self.assertEqual(taken(base, whole, len(row)), (row, stack))
                row = row_of(base, stack)
                for many in range(len(row) + 1):
                    cut = len(row) - many
                    self.assertEqual(taken(base, stack, many), (row[cut:], stack_of(base, row[:cut])))
                for many in (len(row) + 1, BIG):
                    self.assertEqual(refused_word(taken, base, stack, many), "many")

    def test_refusals(self):
        digits = NO_ROW + ((2,), (0, 2), (0, 1, BIG))
        check_refusals(
            self, digits_of, {"base": 2, "number": 6, "many": 4},
            {"base": NO_BASE, "number": NO_NUMBER, "many": NO_NUMBER})
        check_refusals(self, number_of, {"base": 2, "digits": (0, 1)}, {"base": NO_BASE, "digits": digits})
        check_refusals(self, row_of, {"base": 2, "stack": 6}, {"base": NO_BASE, "stack": NO_NUMBER})
        check_refusals(self, stack_of, {"base": 2, "digits": (0, 1)}, {"base": NO_BASE, "digits": digits})
        check_refusals(
            self, added, {"base": 2, "stack": 6, "digits": (0, 1)},
            {"base": NO_BASE, "stack": NO_NUMBER, "digits": digits})
        check_refusals(
            self, taken, {"base": 2, "stack": 6, "many": 1},
            {"base": NO_BASE, "stack": NO_NUMBER, "many": NO_NUMBER + (3, BIG)})


if __name__ == "__main__":
    unittest.main()
