import itertools
import unittest

from pushedback.evens import pop_between, pop_even, pop_evens, push_between, push_even, push_evens
from tests.refusals import NO_INTEGER, NO_NUMBER, NO_POSITIVE, NO_TUPLE, check_refusals

BIG = 10 ** 60 + 7
STACKS = (0, 1, 2, 5, 17, 64, BIG)


class EvensTest(unittest.TestCase):
    def test_one(self):
        for many in (1, 2, 3, 10, BIG):
            for stack in STACKS:
                digit, left = pop_even(stack, many)
                self.assertEqual((digit, left), (stack % many, stack // many))
                self.assertEqual(push_even(left, many, digit), stack)
                for other in (0, many // 2, many - 1):
                    self.assertEqual(pop_even(push_even(stack, many, other), many), (other, stack))
        self.assertEqual(push_even(stack=4, many=3, digit=2), 14)

    def test_several(self):
        for sizes in ((), (1,), (2, 3), (3, 1, 2), (1, 1)):
            product = 1
            for size in sizes:
                product *= size
            for stack in STACKS:
                digits, left = pop_evens(stack, sizes)
                self.assertEqual(push_evens(left, sizes, digits), stack)
                self.assertEqual(left, stack // product)
                rows = list(itertools.product(*[range(size) for size in sizes]))
                pushed = [push_evens(stack, sizes, row) for row in rows]
                self.assertEqual(sorted(pushed), [product * stack + at for at in range(product)])
                self.assertEqual([pop_evens(one, sizes) for one in pushed], [(row, stack) for row in rows])
        self.assertEqual(pop_evens(11, (2, 3)), ((1, 2), 1))
        self.assertEqual(pop_evens(7, ()), ((), 7))

    def test_the_first_size_is_popped_first(self):
        first, left = pop_even(11, 2)
        second, rest = pop_even(left, 3)
        self.assertEqual(pop_evens(11, (2, 3)), ((first, second), rest))

    def test_between(self):
        for low, high in ((0, 0), (-1, 1), (-5, -5), (3, 9), (-BIG, BIG)):
            for stack in STACKS:
                integer, left = pop_between(stack, low, high)
                self.assertTrue(low <= integer <= high)
                self.assertEqual(push_between(left, low, high, integer), stack)
                for other in (low, high, (low + high) // 2):
                    pushed = push_between(stack, low, high, other)
                    self.assertEqual(pushed, push_even(stack, high - low + 1, other - low))
                    self.assertEqual(pop_between(pushed, low, high), (other, stack))

    def test_refusals(self):
        check_refusals(
            self, push_even, {"stack": 5, "many": 3, "digit": 2},
            {"stack": NO_NUMBER, "many": NO_POSITIVE, "digit": NO_NUMBER + (3, BIG)})
        check_refusals(self, pop_even, {"stack": 5, "many": 3}, {"stack": NO_NUMBER, "many": NO_POSITIVE})
        sizes = NO_TUPLE + ((0,), (2, 0), (-1,), (True,), (2, None), [2, 3])
        digits = NO_TUPLE + ((), (1,), (1, 2, 0), (2, 0), (0, 3), (-1, 0), (True, 0), (0, None), [1, 2])
        check_refusals(
            self, push_evens, {"stack": 5, "sizes": (2, 3), "digits": (1, 2)},
            {"stack": NO_NUMBER, "sizes": sizes, "digits": digits})
        check_refusals(self, pop_evens, {"stack": 5, "sizes": (2, 3)}, {"stack": NO_NUMBER, "sizes": sizes})
        high = NO_INTEGER + (-2, -BIG)
        check_refusals(
            self, push_between, {"stack": 5, "low": -1, "high": 1, "integer": 0},
            {"stack": NO_NUMBER, "low": NO_INTEGER, "high": high, "integer": NO_INTEGER + (-2, 2)})
        check_refusals(
            self, pop_between, {"stack": 5, "low": -1, "high": 1},
            {"stack": NO_NUMBER, "low": NO_INTEGER, "high": high})


if __name__ == "__main__":
    unittest.main()
