import math
import unittest
from fractions import Fraction

from pushedback.quotients import (
    compare, least_whole, minus, most_whole, over, plus, raised, shares_of, times, total_of,
)
from tests.refusals import NO_NUMBER, NO_QUOTIENT, NO_TUPLE, check_refusals

BIG = 10 ** 60 + 7
SOME = ((0, 1), (1, 1), (-1, 1), (1, 2), (-3, 2), (2, 3), (-7, 6), (5, 1), (BIG, 2), (1, BIG), (-BIG, BIG - 1))


def fraction(one):
    return Fraction(one[0], one[1])


def pair(number):
    return (number.numerator, number.denominator)


class QuotientsTest(unittest.TestCase):
    def test_reckoning(self):
        for one in SOME:
            for other in SOME:
                left, right = fraction(one), fraction(other)
                self.assertEqual(plus(one, other), pair(left + right))
                self.assertEqual(minus(one, other), pair(left - right))
                self.assertEqual(times(one, other), pair(left * right))
                if right != 0:
                    self.assertEqual(over(one, other), pair(left / right))
                self.assertEqual(compare(one, other), (left > right) - (left < right))
                self.assertEqual(total_of((one, other, one)), pair(left + right + left))

    def test_results_are_pairs_of_integers(self):
        for result in (plus((1, 2), (1, 2)), minus((1, 2), (1, 2)), over((-1, 2), (-1, 2)), times((0, 1), (5, 7))):
            self.assertIs(type(result), tuple)
            self.assertEqual([type(part) for part in result], [int, int])
        self.assertEqual(minus((1, 2), (1, 2)), (0, 1))
        self.assertEqual(over((1, 2), (-1, 3)), (-3, 2))

    def test_raised(self):
        for one in SOME:
            for many in (0, 1, 2, 5):
                self.assertEqual(raised(one, many), pair(fraction(one) ** many))
        self.assertEqual(raised((0, 1), 0), (1, 1))
        self.assertEqual(raised((1, 2), 1000), (1, 2 ** 1000))

    def test_wholes(self):
        for one in SOME:
            self.assertEqual(least_whole(one), math.ceil(fraction(one)))
            self.assertEqual(most_whole(one), math.floor(fraction(one)))

    def test_totals_and_shares(self):
        self.assertEqual(total_of(()), (0, 1))
        self.assertEqual(total_of(((1, 2), (-1, 2))), (0, 1))
        self.assertEqual(shares_of(((0, 1), (7, 3))), (0, 1))
        self.assertEqual(shares_of(((4, 1), (6, 1), (0, 1), (4, 1))), (2, 3, 0, 2))
        self.assertEqual(shares_of(((1, 6), (1, 4))), (2, 3))
        self.assertEqual(shares_of(((BIG, 2), (BIG, 3))), (3, 2))

    def test_refusals(self):
        for function in (plus, minus, times, over, compare):
            check_refusals(
                self, function, {"one": (1, 2), "other": (-1, 3)}, {"one": NO_QUOTIENT, "other": NO_QUOTIENT})
        check_refusals(self, over, {"one": (1, 2), "other": (1, 3)}, {"one": NO_QUOTIENT, "other": ((0, 1),)})
        check_refusals(self, raised, {"one": (1, 2), "many": 3}, {"one": NO_QUOTIENT, "many": NO_NUMBER})
        for function in (least_whole, most_whole):
            check_refusals(self, function, {"one": (1, 2)}, {"one": NO_QUOTIENT})
        many = NO_TUPLE + ((1, 2), ((2, 4),), ((1, 2), True), ([1, 2],), (((1, 2),),), [(1, 2)], (None,))
        check_refusals(self, total_of, {"quotients": ((1, 2),)}, {"quotients": many})
        few = many + ((), ((0, 1),), ((0, 1), (0, 1)), ((-1, 2),), ((1, 2), (-1, 2)))
        check_refusals(self, shares_of, {"quotients": ((1, 2),)}, {"quotients": few})


if __name__ == "__main__":
    unittest.main()
