import unittest

from pushedback.errors import NotUsable, Unmended
from pushedback.losschecker import lets_loss
from pushedback.lossclasses import Plan, Points
from pushedback.losspapers import loss_paper
from pushedback.mending import can_mend, mended, pieces_of, plan_by_points, told_blocks
from tests.fieldsums import NO_PLAN, NO_SIZE, PLAN, PLANS, kept_sets
from tests.refusals import NO_NUMBER, NO_POSITIVE, check_refusals, refused_word
from tests.test_fields import NO_BLOCKS
from tests.test_mending import NO_KEPT, NO_POINTS, blocks_for

BIG = 10 ** 59 + 7
NO_PLACE = NO_NUMBER + (3, 4, BIG)


class Mine(Plan):
    pass


class MyPoints(Points):
    pass


def makers():
    """Objects of the plan PLAN, of each class that can have it."""
    return Plan(5, *PLAN), Mine(5, *PLAN), Points(5, 2, 0, 1, 2), MyPoints(5, 2, 0, 1, 2)


class PlanTest(unittest.TestCase):
    def test_as_the_functions(self):
        for size, plan in PLANS:
            for one in (Plan(size, *plan), Mine(size, *plan)):
                self.assertEqual((one.size_now, one.plan_now), (size, plan))
                self.assertIs(type(one.plan_now), tuple)
                self.assertEqual((len(one), list(one)), (len(plan), list(plan)))
                self.assertEqual([one[place] for place in range(len(plan))], list(plan))
                blocks = blocks_for(size, len(plan[0]), 3, 11)
                pieces = one.pieces(blocks)
                self.assertEqual(pieces, pieces_of(size, plan, blocks))
                for kept in kept_sets(len(plan)):
                    own = tuple(pieces[place] for place in kept)
                    self.assertIs(one(kept), can_mend(size, plan, kept))
                    self.assertEqual(one.told(kept), told_blocks(size, plan, kept))
                    if one(kept):
                        self.assertEqual(one.mended(kept, own), mended(size, plan, kept, own))
                    else:
                        with self.assertRaises(Unmended) as caught:
                            one.mended(kept, own)
                        untold = tuple(at for at in range(len(plan[0])) if at not in one.told(kept))
                        self.assertEqual(caught.exception.untold, untold)
                    for block in range(len(plan[0])):
                        self.assertEqual(one.paper(kept, block), loss_paper(size, plan, kept, block))
                        lets_loss(size, plan, kept, block, one.paper(kept, block))
        one = Plan(5, *PLAN)
        self.assertIs(one(kept=(0, 2)), True)
        self.assertEqual(one.pieces(blocks=((1,), (2,))), ((1,), (3,), (0,)))
        self.assertEqual(one.told(kept=(0,)), (0,))
        self.assertEqual(one.mended(kept=(0, 1), pieces=((1,), (3,))), ((1,), (2,)))
        self.assertEqual(one.paper(kept=(0, 1), block=1), one.paper((0, 1), 1))

    def test_in(self):
        for one in makers():
            for row in PLAN:
                self.assertIs(row in one, True)
            for thing in ((1, True), (True, 0), (True, True), [1, 0], (1,), (1, 0, 0), (2, 2), (), None, True, 0, "10", one,
                          (1, None), (1, BIG), (1, -1), ((1, 0),), PLAN):
                self.assertIs(thing in one, False, thing)

    def test_equality(self):
        for one in makers():
            for other in makers():
                self.assertIs(one == other, True)
                self.assertIs(one != other, False)
            for other in (Plan(7, *PLAN), Plan(5, *PLAN[:2]), Plan(5, *PLAN[::-1]), Points(5, 2, 0, 1, 3), (5, PLAN), PLAN,
                          list(PLAN), None, 5, True, "", Plan(5, (1, 0))):
                self.assertIs(one == other, False)

    def test_sums(self):
        for one in makers():
            for other in makers() + (Plan(5, (0, 0)),):
                whole = one + other
                self.assertIs(type(whole), Plan)
                self.assertEqual(whole.plan_now, PLAN + other.plan_now)
                self.assertEqual((whole.size_now, one.plan_now), (5, PLAN))
            for other in (Plan(7, *PLAN), Plan(5, (1,)), Plan(5, (1, 2, 3)), Points(3, 2, 0, 1), PLAN, ((1, 0),), (1, 0), None,
                          True, [], 5, "", Plan(2, (1, 0))):
                self.assertEqual(refused_word(lambda added: one + added, other), "other")
        self.assertEqual((Plan(2, (1,)) + Points(2, 1, 0, 1)).plan_now, ((1,), (1,), (1,)))

    def test_refusals(self):
        for maker in (Plan, Mine):
            for size in NO_SIZE:
                self.assertEqual(refused_word(maker, size, *PLAN), "size")
                self.assertEqual(refused_word(maker, size), "size")
            for plan in NO_PLAN:
                if isinstance(plan, (tuple, list)) and plan != [(1, 0)]:
                    self.assertEqual(refused_word(maker, 5, *plan), "rows", plan)
            self.assertEqual(refused_word(maker, 5, PLAN), "rows")
        for one in makers():
            for place in NO_PLACE:
                self.assertEqual(refused_word(lambda at: one[at], place), "place")
            check_refusals(self, one.pieces, {"blocks": ((1, 2), (3, 4))}, {"blocks": NO_BLOCKS})
            for call in (one.told, lambda kept: one(kept)):
                check_refusals(self, call, {"kept": (0, 2)}, {"kept": NO_KEPT})
            check_refusals(
                self, one.mended, {"kept": (0, 2), "pieces": ((1, 2), (3, 4))}, {"kept": NO_KEPT, "pieces": NO_BLOCKS})
            check_refusals(
                self, one.paper, {"kept": (0, 2), "block": 1}, {"kept": NO_KEPT, "block": NO_NUMBER + (2, BIG)})
            with self.assertRaises(NotUsable) as caught:
                one.mended((0, 1, 2), ((1,), (3,), (1,)))
            self.assertEqual((caught.exception.word, caught.exception.at), ("pieces", -1))


class PointsTest(unittest.TestCase):
    def test_points(self):
        for size, many, points in ((5, 2, (0, 1, 2)), (7, 1, (6,)), (16, 4, (15, 0, 3)), (256, 8, tuple(range(248, 256))),
                                   (2, 3, (1, 0))):
            for one in (Points(size, many, *points), MyPoints(size, many, *points)):
                self.assertEqual((one.size_now, one.many_now, one.points_now), (size, many, points))
                self.assertEqual(one.plan_now, plan_by_points(size, points, many))
                self.assertEqual((list(one), len(one)), (list(one.plan_now), len(points)))
                for kept in kept_sets(min(len(points), 5)):
                    told = one.lacking(kept)
                    self.assertEqual(told, max(many - len(kept), 0))
                    # any so many tell all blocks
                    self.assertIs(one(kept), told == 0)
        self.assertEqual(Points(5, 2, 0, 1, 2).lacking(kept=(1,)), 1)
        self.assertEqual(Points(5, 2, 0, 1, 2).lacking((0, 1, 2)), 0)
        self.assertTrue(issubclass(Points, Plan))

    def test_refusals(self):
        for maker in (Points, MyPoints):
            for size in NO_SIZE:
                self.assertEqual(refused_word(maker, size, 2, 0, 1), "size")
                self.assertEqual(refused_word(maker, size, 0, 0, 0), "size")
            for many in NO_POSITIVE:
                self.assertEqual(refused_word(maker, 5, many, 0, 1), "many")
                self.assertEqual(refused_word(maker, 5, many, 0, 0), "many")
            for points in NO_POINTS:
                if isinstance(points, tuple):
                    self.assertEqual(refused_word(maker, 5, 2, *points), "points")
            self.assertEqual(refused_word(maker, 5, 2, (0, 1)), "points")
        for one in makers()[2:]:
            check_refusals(self, one.lacking, {"kept": (0, 2)}, {"kept": NO_KEPT})


if __name__ == "__main__":
    unittest.main()
