import itertools
import unittest

from pushedback.fields import (
    field_minus, field_over, field_plus, field_raised, field_times, is_blocks, is_field, is_plan,
)
from tests.fieldsums import NO_PLAN, NO_SIZE, PLAN, PLANS, SIZES, TABLES, plus
from tests.refusals import NO_NUMBER, NO_POSITIVE, check_refusals

BIG = 10 ** 59 + 7
NO_BLOCKS = (
    None, True, "", 0, (), [], ((1, 2),), ((1, 2), (3, 4), (0, 0)), ((1, 2), (3,)), ((1, 2), [3, 4]), [(1, 2), (3, 4)],
    ((1, 5), (3, 4)), ((1, True), (3, 4)), ((1, -1), (3, 4)), ((1, 2), None), (1, 2), ((1, "2"), (3, 4)), ((), (0,)),
    ((1, BIG), (3, 4)), (((1,), (2,)), ((3,), (4,))),
)


class FieldsTest(unittest.TestCase):
    def test_kinds(self):
        for size in SIZES:
            self.assertIs(is_field(size), True)
        for thing in NO_SIZE:
            self.assertIs(is_field(thing), False, thing)
        self.assertEqual([size for size in range(300) if is_field(size)], list(SIZES))
        self.assertIs(is_field(thing=5), True)
        for size, plan in PLANS:
            self.assertIs(is_plan(size, plan), True)
            self.assertIs(is_plan(size=size, thing=plan + (plan[0],)), True)
        for thing in NO_PLAN:
            self.assertIs(is_plan(5, thing), False, thing)
        self.assertIs(is_plan(3, ((1, 3),)), False)
        self.assertIs(is_plan(16, ((15, 3),)), True)

    def test_blocks(self):
        for many, blocks in ((2, ((1, 2), (3, 4))), (2, ((), ())), (1, ((),)), (3, ((4,), (0,), (4,))), (8, ((0,) * 300,) * 8)):
            self.assertIs(is_blocks(5, many, blocks), True)
            self.assertIs(is_blocks(size=5, many=many + 1, thing=blocks), False)
        for thing in NO_BLOCKS:
            self.assertIs(is_blocks(5, 2, thing), False, thing)

    def test_sums(self):
        for size in SIZES:
            for one, other in itertools.product(range(size), repeat=2):
                self.assertEqual(field_plus(size, one, other), plus(size, one, other))
                self.assertEqual(plus(size, field_minus(size, one, other), other), one)
        self.assertEqual((field_plus(16, 6, 3), field_minus(5, 4, 3), field_minus(size=5, one=3, other=4)), (5, 1, 4))
        self.assertEqual(field_plus(size=7, one=6, other=3), 2)

    def test_products(self):
        for size in SIZES:
            for one, other in itertools.product(range(size), repeat=2):
                told = field_times(size, one, other)
                self.assertEqual(told, TABLES[size][one][other])
                if size < 256 and other:
                    self.assertEqual(field_times(size, field_over(size, one, other), other), one)
        for one in range(256):
            for other in (1, 2, 3, 28, 255):
                self.assertEqual(TABLES[256][field_over(256, one, other)][other], one)
        self.assertEqual((field_times(256, 2, 128), field_over(16, 1, 2)), (27, 9))
        self.assertEqual(field_times(size=7, one=6, other=6), 1)
        self.assertEqual(field_over(size=7, one=5, other=6), 2)

    def test_field(self):
        # each number but 0 has just one to multiply it to 1, and each row of the table has all numbers
        for size in SIZES:
            for one in range(1, size):
                self.assertEqual(sorted(TABLES[size][one]), list(range(size)))
                self.assertEqual(field_times(size, one, field_over(size, 1, one)), 1)

    def test_powers(self):
        for size in SIZES:
            for one in range(size):
                told = 1
                for many in range(12):
                    self.assertEqual(field_raised(size, one, many), told)
                    told = TABLES[size][told][one]
        for size in SIZES:
            for one in range(1, size, 1 if size < 256 else 7):
                # by the power size - 1 each comes to 1 again
                for many in (BIG, 10 ** 60 - 1, 10 ** 59):
                    self.assertEqual(field_raised(size, one, many), field_raised(size, one, many % (size - 1)))
                self.assertEqual(field_raised(size, one, (size - 1) * BIG), 1)
            self.assertEqual((field_raised(size, 0, 0), field_raised(size, 0, 1), field_raised(size, 0, BIG)), (1, 0, 0))
        self.assertEqual(field_raised(size=5, one=2, other=3), 3)

    def test_refusals(self):
        no_one = NO_NUMBER + (5, 16, BIG)
        for function in (field_plus, field_minus, field_times):
            check_refusals(
                self, function, {"size": 5, "one": 4, "other": 0}, {"size": NO_SIZE, "one": no_one, "other": no_one})
        check_refusals(
            self, field_over, {"size": 5, "one": 0, "other": 4}, {"size": NO_SIZE, "one": no_one, "other": no_one + (0,)})
        check_refusals(
            self, field_raised, {"size": 5, "one": 0, "other": BIG}, {"size": NO_SIZE, "one": no_one, "other": NO_NUMBER})
        check_refusals(self, is_plan, {"size": 5, "thing": PLAN}, {"size": NO_SIZE})
        check_refusals(
            self, is_blocks, {"size": 5, "many": 1, "thing": ((1,),)}, {"size": NO_SIZE, "many": NO_POSITIVE})


if __name__ == "__main__":
    unittest.main()
