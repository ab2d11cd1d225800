import itertools
import math
import unittest

from pushedback.numberings import order_by, order_rank, set_by, set_rank
from tests.refusals import NO_NUMBER, NO_ROW, check_refusals, refused_word

BIG = 10 ** 60 + 7


class NumberingsTest(unittest.TestCase):
    def test_sets(self):
        for many in range(8):
            for few in range(many + 1):
                for rank, one in enumerate(itertools.combinations(range(many), few)):
                    self.assertEqual(set_rank(many, one), rank)
                    self.assertEqual(set_by(many, few, rank), one)
        self.assertEqual(set_by(20, 10, math.comb(20, 10) - 1), tuple(range(10, 20)))
        self.assertEqual(set_rank(20, tuple(range(10, 20))), math.comb(20, 10) - 1)
        self.assertEqual(set_by(0, 0, 0), ())

    def test_orders(self):
        for many in range(6):
            for rank, one in enumerate(itertools.permutations(range(many))):
                self.assertEqual(order_rank(one), rank)
                self.assertEqual(order_by(many, rank), one)
        last = tuple(range(19, -1, -1))
        self.assertEqual(order_rank(last), math.factorial(20) - 1)
        self.assertEqual(order_by(20, math.factorial(20) - 1), last)

    def test_refusals(self):
        things = NO_ROW + ((5,), (0, 0), (1, 0), (2, BIG))
        check_refusals(self, set_rank, {"many": 5, "things": (0, 3)}, {"many": NO_NUMBER, "things": things})
        check_refusals(
            self, set_by, {"many": 5, "few": 2, "rank": 9},
            {"many": NO_NUMBER, "few": NO_NUMBER + (6, BIG), "rank": NO_NUMBER + (10, BIG)})
        order = NO_ROW + ((1,), (0, 0), (0, 2), (1, 2), (2, 0, 1, 4))
        check_refusals(self, order_rank, {"order": (1, 0, 2)}, {"order": order})
        check_refusals(
            self, order_by, {"many": 3, "rank": 5}, {"many": NO_NUMBER, "rank": NO_NUMBER + (6, BIG)})
        self.assertEqual(refused_word(order_by, 0, 1), "rank")
        self.assertEqual(refused_word(set_by, 0, 0, 1), "rank")


if __name__ == "__main__":
    unittest.main()
