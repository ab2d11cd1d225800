import itertools
import unittest

from pushedback.errors import Unmended
from pushedback.mending import can_mend, mended, mending_sets, pieces_of, plan_by_points, told_blocks
from tests import fieldsums
from tests.fieldsums import NO_PLAN, NO_SIZE, PLAN, PLANS, SIZES, kept_sets
from tests.refusals import NO_POSITIVE, NO_ROW, check_refusals, refused_word
from tests.test_fields import NO_BLOCKS

BIG = 10 ** 59 + 7
NO_KEPT = NO_ROW + ((3,), (0, 0), (1, 0), (0, 3), (0, 1, 2, 3), (BIG,), (0, True), (2, 1))
NO_POINTS = NO_ROW + ((), (5,), (0, 0), (0, 1, 2, 3, 4, 0), (1, True), (BIG,))


def blocks_for(size, many, wide, step):
    return tuple(tuple((at * at * step + place + 3 * at) % size for at in range(wide)) for place in range(many))


class MendingTest(unittest.TestCase):
    def untold(self, size, plan, kept, pieces):
        with self.assertRaises(Unmended) as caught:
            mended(size, plan, kept, pieces)
        return caught.exception.untold

    def test_points(self):
        for size in SIZES:
            for points in ((0,), tuple(range(min(size, 8))), (1, 0), tuple(range(size - 1, max(size - 9, -1), -1))):
                for many in (1, 2, 5, 8):
                    told = plan_by_points(size, points, many)
                    self.assertTrue(type(told) is tuple and all(type(row) is tuple for row in told))
                    self.assertEqual(len(told), len(points))
                    for point, row in zip(points, told):
                        self.assertEqual(len(row), many)
                        self.assertEqual(row[0], 1)
                        for at in range(1, many):
                            self.assertEqual(row[at], fieldsums.times(size, row[at - 1], point))
        self.assertEqual(plan_by_points(5, (0, 1, 2), 2), PLAN)
        self.assertEqual(plan_by_points(size=5, points=(3, 4), many=3), ((1, 3, 4), (1, 4, 1)))

    def test_any_few_mend(self):
        for size, points in ((5, (0, 1, 2, 3, 4)), (7, (6, 0, 3, 2)), (16, (15, 0, 1, 9, 8)), (256, (255, 1, 0, 77, 3, 9))):
            for many in range(1, len(points) + 1):
                plan = plan_by_points(size, points, many)
                self.assertEqual(mending_sets(size, plan), tuple(itertools.combinations(range(len(points)), many)))
                blocks = blocks_for(size, many, 6, 5)
                pieces = pieces_of(size, plan, blocks)
                for kept in kept_sets(len(points)):
                    self.assertIs(can_mend(size, plan, kept), len(kept) >= many)
                    if len(kept) >= many:
                        self.assertEqual(mended(size, plan, kept, tuple(pieces[place] for place in kept)), blocks)

    def test_pieces(self):
        for size, plan in PLANS:
            many = len(plan[0])
            for wide in (0, 1, 4, 9):
                blocks = blocks_for(size, many, wide, 7)
                told = pieces_of(size, plan, blocks)
                self.assertTrue(type(told) is tuple and all(type(row) is tuple for row in told))
                self.assertEqual(told, tuple(fieldsums.sum_of(size, wide, row, blocks) for row in plan))
        self.assertEqual(pieces_of(5, PLAN, ((1, 2), (3, 4))), ((1, 2), (4, 1), (2, 0)))
        self.assertEqual(pieces_of(size=5, plan=PLAN, blocks=((), ())), ((), (), ()))

    def test_told(self):
        for size, plan in PLANS:
            many = len(plan[0])
            for kept in kept_sets(len(plan)):
                if size == 256 and len(kept) > 1:
                    continue
                told = fieldsums.told(size, plan, kept)
                self.assertIs(type(told_blocks(size, plan, kept)), tuple)
                self.assertEqual(told_blocks(size, plan, kept), told, (size, plan, kept))
                self.assertIs(can_mend(size, plan, kept), len(told) == many)
            sets = tuple(kept for kept in kept_sets(len(plan)) if len(kept) == many and can_mend(size, plan, kept))
            self.assertEqual(mending_sets(size, plan), sets)
        self.assertEqual(told_blocks(size=5, plan=PLAN, kept=(0,)), (0,))
        self.assertEqual(mending_sets(size=5, plan=PLAN), ((0, 1), (0, 2), (1, 2)))
        self.assertEqual(mending_sets(3, ((1, 0, 0, 2), (0, 0, 0, 1))), ())
        self.assertIs(can_mend(size=5, plan=PLAN, kept=()), False)
        self.assertEqual(mending_sets(2, ((1,), (0,), (1,))), ((0,), (2,)))

    def test_mended(self):
        for size, plan in PLANS:
            many = len(plan[0])
            for wide in (0, 1, 3):
                blocks = blocks_for(size, many, wide, 11)
                pieces = pieces_of(size, plan, blocks)
                for kept in kept_sets(len(plan)):
                    own = tuple(pieces[place] for place in kept)
                    if can_mend(size, plan, kept):
                        told = mended(size, plan, kept, own)
                        self.assertTrue(type(told) is tuple and all(type(row) is tuple for row in told))
                        self.assertEqual(told, blocks)
                    else:
                        lacking = tuple(at for at in range(many) if at not in told_blocks(size, plan, kept))
                        self.assertEqual(self.untold(size, plan, kept, own), lacking)
        self.assertEqual(mended(size=5, plan=PLAN, kept=(1, 2), pieces=((4, 1), (2, 0))), ((1, 2), (3, 4)))
        self.assertEqual(self.untold(5, PLAN, (), ()), (0, 1))
        self.assertEqual(self.untold(5, PLAN, (1,), ((4, 1),)), (0, 1))
        self.assertEqual(self.untold(5, PLAN, (0,), ((),)), (1,))

    def test_pieces_that_no_blocks_have(self):
        # all pieces of one and two numbers, of small fields
        for size, plan, wide in ((2, PLANS[3][1], 2), (3, PLANS[4][1], 1), (3, ((1, 1), (2, 2), (0, 1)), 2), (5, PLAN, 1),
                                 (2, ((0, 0), (0, 0)), 2), (2, ((0,),), 1)):
            rows = list(fieldsums.all_rows(size, wide))
            for kept in kept_sets(len(plan)):
                there = {
                    tuple(pieces_of(size, plan, blocks)[place] for place in kept)
                    for blocks in itertools.product(rows, repeat=len(plan[0]))}
                for pieces in itertools.product(rows, repeat=len(kept)):
                    if pieces not in there:
                        # ahead of Unmended
                        self.assertEqual(refused_word(mended, size, plan, kept, pieces), "pieces")
                    elif can_mend(size, plan, kept):
                        self.assertEqual(
                            tuple(pieces_of(size, plan, mended(size, plan, kept, pieces))[place] for place in kept),
                            pieces)
                    else:
                        self.untold(size, plan, kept, pieces)

    def test_wide_blocks(self):
        plan = plan_by_points(256, tuple(range(8)), 8)
        blocks = blocks_for(256, 8, 300, 5)
        self.assertEqual(mended(256, plan, tuple(range(8)), pieces_of(256, plan, blocks)), blocks)

    def test_refusals(self):
        check_refusals(
            self, plan_by_points, {"size": 5, "points": (0, 1), "many": 2},
            {"size": NO_SIZE, "points": NO_POINTS, "many": NO_POSITIVE})
        check_refusals(
            self, pieces_of, {"size": 5, "plan": PLAN, "blocks": ((1, 2), (3, 4))},
            {"size": NO_SIZE, "plan": NO_PLAN, "blocks": NO_BLOCKS})
        for function in (told_blocks, can_mend):
            check_refusals(
                self, function, {"size": 5, "plan": PLAN, "kept": (0, 2)},
                {"size": NO_SIZE, "plan": NO_PLAN, "kept": NO_KEPT})
        check_refusals(
            self, mended, {"size": 5, "plan": PLAN, "kept": (0, 2), "pieces": ((1, 2), (3, 4))},
            {"size": NO_SIZE, "plan": NO_PLAN, "kept": NO_KEPT, "pieces": NO_BLOCKS})
        check_refusals(self, mending_sets, {"size": 5, "plan": PLAN}, {"size": NO_SIZE, "plan": NO_PLAN})


if __name__ == "__main__":
    unittest.main()
