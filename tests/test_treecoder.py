import itertools
import unittest
from fractions import Fraction

from pushedback.contexts import contexts_of, met_at
from pushedback.learning import chance_learned, pop_learned, push_learned
from pushedback.treecoder import chance_treed, pop_treed, push_treed, table_treed
from tests import trees
from tests.refusals import NO_LEARNER, NO_NUMBER, NO_TUPLE, check_refusals

BIG = 10 ** 60 + 7
TALL = ((), ((), ()))
CASES = (
    ((2, (1, 1)), ()), ((2, (1, 1)), ((), ())), ((1, (2, 1)), TALL), ((0, (1, 3)), TALL),
    ((3, (1, 0, 2)), ((), (), ())), ((1, (1, 1, 1)), ((), ((), (), ()), ())), ((2, (3,)), (((),),)),
    ((1, (0, 2)), (TALL, ())),
)


def aheads(learner, tree):
    return list(itertools.product(range(len(learner[1])), repeat=trees.depth_of(tree)))


class TreecoderTest(unittest.TestCase):
    def test_tables_and_chances(self):
        for learner, tree in CASES:
            for ahead in aheads(learner, tree):
                sums = []
                for many in range(4):
                    total = 0
                    for text in trees.possible_texts(learner, many):
                        table = trees.table_under(learner, tree, ahead, text)
                        self.assertEqual(table_treed(learner, tree, ahead, text), table)
                        told = trees.chance_under(learner, tree, ahead, text)
                        self.assertEqual(chance_treed(learner, tree, ahead, text), trees.pair(told))
                        total += told
                    sums.append(total)
                self.assertEqual(sums, [1] * 4)

    def test_chance_is_the_product_over_the_leaves(self):
        for learner, tree in CASES:
            ahead = aheads(learner, tree)[-1]
            for text in trees.possible_texts(learner, 4):
                product = Fraction(1)
                for context in contexts_of(len(learner[1]), tree):
                    product *= Fraction(*chance_learned(learner, met_at(context, ahead, text)))
                self.assertEqual(chance_treed(learner, tree, ahead, text), trees.pair(product))

    def test_pushes_and_pops(self):
        for learner, tree in CASES:
            for ahead in aheads(learner, tree)[:5]:
                for many in range(4):
                    for stack in list(range(30)) + [BIG]:
                        text, left = pop_treed(stack, learner, tree, ahead, many)
                        self.assertEqual(len(text), many)
                        self.assertEqual(push_treed(left, learner, tree, ahead, text), stack)
                    for text in trees.possible_texts(learner, many):
                        for stack in (0, 1, 5, BIG):
                            pushed = push_treed(stack, learner, tree, ahead, text)
                            self.assertEqual(pop_treed(pushed, learner, tree, ahead, many), (text, stack))

    def test_a_leaf_alone_is_the_learner(self):
        for learner in ((2, (1, 1)), (1, (0, 2, 1))):
            for text in trees.possible_texts(learner, 3):
                self.assertEqual(push_treed(BIG, learner, (), (), text), push_learned(BIG, learner, text))
                self.assertEqual(chance_treed(learner, (), (), text), chance_learned(learner, text))
            self.assertEqual(pop_treed(BIG, learner, (), (), 7), pop_learned(BIG, learner, 7))

    def test_long_text(self):
        learner, tree, ahead = (1, (1, 2)), (TALL, TALL), (1, 0, 1)
        text = (0, 1, 1, 0, 1, 0, 0, 0) * 5
        told = trees.chance_under(learner, tree, ahead, text)
        self.assertEqual(chance_treed(learner, tree, ahead, text), trees.pair(told))
        pushed = push_treed(BIG, learner, tree, ahead, text)
        self.assertEqual(pop_treed(pushed, learner, tree, ahead, 40), (text, BIG))

    def test_ahead_need_not_be_possible(self):
        self.assertEqual(table_treed((1, (0, 2)), ((), ()), (0,), (1, 1)), (0, 3))

    def test_refusals(self):
        learner = (1, (2, 0, 1))
        tree = ((), (), ((), (), ()))
        no_tree = NO_TUPLE + (((), ()), ((), (), ((), ())), (0, 0, 0), [(), (), ()], ((), (), []))
        no_ahead = NO_TUPLE + ((), (0,), (0, 1, 2), (0, 3), (-1, 0), (0, True), (0, None), [0, 1])
        no_text = NO_TUPLE + ((1,), (0, 1), (3,), (-1,), (True,), (0, None), ("0",), [0, 2])
        good = {"learner": learner, "tree": tree, "ahead": (0, 1), "text": (0, 2)}
        wrong = {"learner": NO_LEARNER, "tree": no_tree, "ahead": no_ahead, "text": no_text}
        check_refusals(self, table_treed, good, wrong)
        check_refusals(self, chance_treed, good, wrong)
        check_refusals(self, push_treed, {"stack": 5, **good}, {"stack": NO_NUMBER, **wrong})
        good.pop("text")
        wrong.pop("text")
        check_refusals(
            self, pop_treed, {"stack": 5, **good, "many": 2}, {"stack": NO_NUMBER, **wrong, "many": NO_NUMBER})


if __name__ == "__main__":
    unittest.main()
