import inspect
import itertools
import math
import unittest

from pushedback.cutting import all_cuts, cut_row, joined
from pushedback.kinds import is_cuts
from tests.refusals import NO_NUMBER, NO_POSITIVE, NO_ROW, NO_TUPLE, check_refusals

BIG = 10 ** 60 + 7


class CuttingTest(unittest.TestCase):
    def test_all_cuts(self):
        for many in range(5):
            for parts in range(1, 5):
                told = [cuts for cuts in itertools.product(range(many + 1), repeat=parts - 1) if is_cuts(many, cuts)]
                self.assertEqual(list(all_cuts(many, parts)), told)
        self.assertEqual(list(all_cuts(7, 1)), [()])
        self.assertEqual(list(all_cuts(0, 3)), [(0, 0)])
        self.assertEqual(list(all_cuts(0, 1500)), [(0,) * 1499])
        self.assertEqual(len(list(all_cuts(20, 4))), math.comb(23, 3))
        self.assertTrue(inspect.isgenerator(all_cuts(2, 2)))
        self.assertTrue(inspect.isgenerator(all_cuts(None, None)))
        one, other = all_cuts(2, 2), all_cuts(2, 2)
        self.assertEqual([next(one), next(one), next(other), next(one)], [(0,), (1,), (0,), (2,)])
        endless = all_cuts(BIG, 3)
        self.assertEqual([next(endless) for _ in range(3)], [(0, 0), (0, 1), (0, 2)])

    def test_cut_and_joined(self):
        for row in ((), (5,), (5, 6, 7), (BIG, 0, 0, 2)):
            for parts in range(1, 4):
                for cuts in all_cuts(len(row), parts):
                    pieces = cut_row(row, cuts)
                    self.assertEqual(len(pieces), parts)
                    self.assertEqual(joined(pieces), row)
                    ends = tuple(itertools.accumulate(len(piece) for piece in pieces))
                    self.assertEqual(ends[:-1], cuts)
        self.assertEqual(joined(()), ())
        self.assertEqual(joined(((), ())), ())

    def test_refusals(self):
        cuts = NO_ROW + ((4,), (2, 1), (0, 4), (True, 2))
        check_refusals(self, cut_row, {"digits": (5, 6, 7), "cuts": (1, 1)}, {"digits": NO_ROW, "cuts": cuts})
        parts = NO_TUPLE + ((0,), ((0,), 1), ((0,), None), ([0],), ((0,), (True,)), [(0,)], ((-1,),), ("0",))
        check_refusals(self, joined, {"parts": ((1, 2), ())}, {"parts": parts})
        check_refusals(self, all_cuts, {"many": 2, "parts": 3}, {"many": NO_NUMBER, "parts": NO_POSITIVE})


if __name__ == "__main__":
    unittest.main()
