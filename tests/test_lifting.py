import itertools
import unittest

from pushedback.lifting import is_ladder, lifted, lifted_in, unlifted, unlifted_in
from tests.refusals import NO_POSITIVE, NO_ROW, NO_TUPLE, check_refusals

BIG = 10 ** 59 + 7
LADDER = ((1, -1, 2), (0, 1, 4))
LADDERS = (
    (), LADDER, ((0, 1, 1),), ((1, 1, 1),), ((0, -3, 2), (0, 5, 3), (1, 0, 1), (1, -7, 4)), ((1, BIG, 1), (0, -BIG, 7)),
    ((0, 1, BIG), (1, -1, BIG)), ((1, -1, 2), (0, 1, 4)) * 4,
)
NO_LADDER = NO_TUPLE + (
    (1, -1, 2), ((1, -1),), ((1, -1, 2, 0),), ((2, -1, 2),), ((-1, 1, 2),), ((True, 1, 2),), ((1, True, 2),),
    ((1, 1, True),), ((1, 1, 0),), ((1, 1, -2),), ([1, 1, 2],), ((1, 1, 2), None), ((None, 1, 2),), (("1", 1, 2),),
    ((1, (1, 2), 2),), ((0, None, 1),), ((),), ((False, 1, 1),), [(1, -1, 2)],
)
NO_SAMPLES = NO_TUPLE + ((True,), (0, None), ("0",), ((),), ([0],))


def step_by_hand(step, samples, many):
    side, top, bottom = step
    changed = list(samples)
    for place in range(len(samples)):
        neighbours = [samples[at] for at in (place - 1, place + 1) if 0 <= at < len(samples)]
        if place % 2 == side and neighbours:
            total = neighbours[0] + neighbours[-1]
            changed[place] += (top * total - top * total % bottom) // bottom
            if many:
                changed[place] %= many
    return tuple(changed)


def by_hand(ladder, samples, many=None):
    for step in ladder:
        samples = step_by_hand(step, samples, many)
    return samples


class LiftingTest(unittest.TestCase):
    def test_is_ladder(self):
        for ladder in LADDERS:
            self.assertIs(is_ladder(ladder), True)
        for thing in NO_LADDER:
            self.assertIs(is_ladder(thing), False, thing)
        self.assertIs(is_ladder(thing=LADDER), True)

    def test_lifting(self):
        rows = [row for many in range(6) for row in itertools.product((-2, 0, 3), repeat=many)]
        rows += [(BIG, -BIG, 7, 0, -1, BIG), tuple(range(-20, 20))]
        for ladder in LADDERS:
            for row in rows:
                told = lifted(ladder, row)
                self.assertIs(type(told), tuple)
                self.assertEqual(told, by_hand(ladder, row))
                self.assertEqual(unlifted(ladder, told), row)
                self.assertIs(type(unlifted(ladder, row)), tuple)
                self.assertEqual(lifted(ladder, unlifted(ladder, row)), row)
        self.assertEqual(lifted(LADDER, (3, 5, 4, 8)), (3, 1, 5, 4))
        self.assertEqual(unlifted(ladder=LADDER, samples=(3, 1, 5, 4)), (3, 5, 4, 8))

    def test_neighbours(self):
        # without both, nothing is added; without one, the other counts twice
        for side in (0, 1):
            self.assertEqual(lifted(((side, 5, 1),), (7,)), (7,))
            self.assertEqual(lifted(((side, 5, 1),), ()), ())
        self.assertEqual(lifted(((0, 1, 1),), (7, 2)), (11, 2))
        self.assertEqual(lifted(((1, 1, 1),), (7, 2)), (7, 16))
        self.assertEqual(lifted(((0, 1, 1),), (1, 10, 2)), (21, 10, 22))
        self.assertEqual(lifted(((1, 1, 1),), (1, 10, 2)), (1, 13, 2))
        self.assertEqual(lifted(((1, 1, 1),), (1, 10, 2, 20)), (1, 13, 2, 24))
        # rounded down, also below nought
        self.assertEqual(lifted(((0, 1, 4),), (0, -1)), (-1, -1))
        self.assertEqual(lifted(((0, -1, 4),), (0, 1)), (-1, 1))

    def test_lifting_in(self):
        for many in (1, 2, 5, BIG):
            rows = [row for wide in range(5) for row in itertools.product(range(min(many, 4)), repeat=wide)]
            rows += [tuple((at * at) % many for at in range(17)), (many - 1,) * 6]
            for ladder in LADDERS:
                told = [lifted_in(many, ladder, row) for row in rows]
                self.assertEqual(told, [by_hand(ladder, row, many) for row in rows])
                self.assertEqual([unlifted_in(many, ladder, row) for row in told], rows)
                back = [unlifted_in(many, ladder, row) for row in rows]
                self.assertTrue(all(type(row) is tuple and all(0 <= one < many for one in row) for row in told + back))
                self.assertEqual([lifted_in(many, ladder, row) for row in back], rows)
        self.assertEqual(lifted_in(5, LADDER, (3, 1, 4, 4)), (4, 2, 4, 0))
        self.assertEqual(unlifted_in(many=5, ladder=LADDER, samples=(4, 2, 4, 0)), (3, 1, 4, 4))
        # mod many after each step, not only at the end
        self.assertEqual(lifted_in(4, ((0, 1, 1), (1, 1, 2)), (3, 3)), (1, 0))
        self.assertEqual(lifted(((0, 1, 1), (1, 1, 2)), (3, 3)), (9, 12))

    def test_refusals(self):
        for function in (lifted, unlifted):
            check_refusals(
                self, function, {"ladder": LADDER, "samples": (-3, 0)}, {"ladder": NO_LADDER, "samples": NO_SAMPLES})
        for function in (lifted_in, unlifted_in):
            check_refusals(
                self, function, {"many": 5, "ladder": LADDER, "samples": (3, 4)},
                {"many": NO_POSITIVE, "ladder": NO_LADDER, "samples": NO_ROW + ((5,), (0, BIG))})


if __name__ == "__main__":
    unittest.main()
