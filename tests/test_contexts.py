import inspect
import itertools
import unittest
from fractions import Fraction

from pushedback.contexts import contexts_of, leaf_of, met_at, prior_of, trees_of
from tests import trees
from tests.refusals import NO_NUMBER, NO_POSITIVE, NO_QUOTIENT, NO_ROW, NO_TUPLE, check_refusals, refused_word

BIG = 10 ** 60 + 7
TALL = ((), ((), ()))
NO_TREE = NO_TUPLE + (((), ((),)), ((), (), ((), ())), (0,), ((), None), ((), []), [()], ("",))
# for trees of two letters
NO_TREE_OF_TWO = NO_TREE + (((),), ((), (), ()), ((), ((), (), ())))


class ContextsTest(unittest.TestCase):
    def test_leaf_of(self):
        for letters, depth in ((1, 3), (2, 3), (3, 1)):
            for tree in trees.all_trees(letters, depth):
                for past in itertools.product(range(letters), repeat=depth):
                    told = trees.leaf(tree, past)
                    self.assertEqual(leaf_of(tree, past), told)
                    self.assertEqual(leaf_of(tree, (0,) + past), told)
        self.assertEqual(leaf_of((), ()), ())
        self.assertEqual(leaf_of((), (BIG, 7)), ())
        # a past need only be as long as the depth, though its leaf be less deep
        self.assertEqual(leaf_of(TALL, (1, 0)), (0,))

    def test_contexts_of(self):
        self.assertEqual(contexts_of(2, ()), ((),))
        self.assertEqual(contexts_of(1, (((),),)), ((0, 0),))
        for letters, depth in ((1, 3), (2, 3), (3, 2)):
            for tree in trees.all_trees(letters, depth)[:100]:
                pasts = itertools.product(range(letters), repeat=depth)
                told = tuple(sorted({trees.leaf(tree, past) for past in pasts}))
                self.assertEqual(contexts_of(letters, tree), told)

    def test_met_at(self):
        text = (0, 1, 1, 0, 1, 0, 0, 1)
        for ahead in ((), (0,), (1, 0), (1, 1, 0)):
            for many in range(len(ahead) + 1):
                for context in itertools.product(range(2), repeat=many):
                    whole = ahead + text
                    told = []
                    for at in range(len(ahead), len(whole)):
                        if all(whole[at - 1 - k] == letter for k, letter in enumerate(context)):
                            told.append(whole[at])
                    self.assertEqual(met_at(context, ahead, text), tuple(told))
        self.assertEqual(met_at((), (), ()), ())
        self.assertEqual(met_at((), (5,), (BIG, 7)), (BIG, 7))
        self.assertEqual(met_at((BIG,), (BIG,), (3, BIG, 4)), (3, 4))
        self.assertEqual(met_at((1, 0), (0, 0, 1), (7,)), (7,))
        self.assertEqual(met_at((0, 1), (0, 0, 1), (7,)), ())

    def test_trees_of(self):
        for letters, depth in ((1, 0), (1, 4), (2, 0), (2, 1), (2, 2), (2, 3), (3, 2), (4, 2)):
            told = sorted(trees.all_trees(letters, depth))
            self.assertEqual(list(trees_of(letters, depth)), told)
        self.assertTrue(inspect.isgenerator(trees_of(2, 2)))
        self.assertTrue(inspect.isgenerator(trees_of(None, True)))
        self.assertEqual(next(trees_of(2, 4)), ())
        one, other = trees_of(2, 1), trees_of(2, 1)
        self.assertEqual([next(one), next(one), next(other), list(one)], [(), ((), ()), (), []])

    def test_prior_of(self):
        for letters, depth in ((2, 3), (3, 1), (1, 4)):
            for share in ((0, 1), (1, 1), (1, 2), (2, 7)):
                total = 0
                for tree in trees.all_trees(letters, depth):
                    told = trees.prior(Fraction(*share), depth, tree)
                    self.assertEqual(prior_of(share, depth, tree), trees.pair(told))
                    total += told
                self.assertEqual(total, 1)
        self.assertEqual(prior_of((1, 3), BIG, ()), (1, 3))
        self.assertEqual(prior_of((1, 3), 0, ()), (1, 1))
        self.assertEqual(prior_of((1, 3), 1, ((), ())), (2, 3))
        # a node as deep as the depth counts for nothing
        self.assertEqual(prior_of((1, 3), 2, ((), ())), (2, 27))

    def test_refusals(self):
        past = NO_ROW + ((0,), (), (0, 2), (0, 1, -1))
        check_refusals(self, leaf_of, {"tree": TALL, "past": (0, 1)}, {"tree": NO_TREE, "past": past})
        check_refusals(self, leaf_of, {"tree": (), "past": (9,)}, {"tree": NO_TREE, "past": NO_ROW})
        check_refusals(
            self, contexts_of, {"letters": 2, "tree": TALL}, {"letters": NO_POSITIVE, "tree": NO_TREE_OF_TWO})
        check_refusals(
            self, met_at, {"context": (1, 0), "ahead": (0, 0), "text": (1, 1)},
            {"context": NO_ROW, "ahead": NO_ROW + ((), (0,)), "text": NO_ROW})
        check_refusals(self, trees_of, {"letters": 2, "depth": 1}, {"letters": NO_POSITIVE, "depth": NO_NUMBER})
        share = NO_QUOTIENT + ((3, 2), (-1, 2))
        check_refusals(
            self, prior_of, {"share": (1, 2), "depth": 2, "tree": TALL},
            {"share": share, "depth": NO_NUMBER, "tree": NO_TREE})
        self.assertEqual(refused_word(prior_of, (1, 2), 1, TALL), "tree")
        self.assertEqual(refused_word(prior_of, (1, 2), 0, ((), ())), "tree")


if __name__ == "__main__":
    unittest.main()
