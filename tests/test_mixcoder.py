import itertools
import unittest
from fractions import Fraction

from pushedback.besttrees import best_tree, best_worth, tree_shares
from pushedback.learning import push_learned
from pushedback.mixcoder import pop_mixed, push_mixed
from pushedback.mixing import chance_mixed, table_mixed
from pushedback.treecoder import push_treed
from tests import trees
from tests.refusals import NO_LEARNER, NO_NUMBER, NO_QUOTIENT, NO_ROW, check_refusals

BIG = 10 ** 60 + 7
MODEL = ((2, (1, 1)), 1, (1, 2))
# models of all depths, with the shares 0 and 1, with starts that are nought, with one letter
MODELS = (
    MODEL, ((2, (1, 1)), 0, (1, 2)), ((2, (1, 1)), 2, (1, 3)), ((1, (2, 1)), 2, (0, 1)), ((1, (2, 1)), 2, (1, 1)),
    ((0, (1, 3)), 1, (2, 7)), ((1, (0, 2)), 2, (1, 2)), ((3, (1, 0, 2)), 1, (1, 2)), ((1, (1, 1, 1)), 1, (0, 1)),
    ((2, (3,)), 2, (1, 2)), ((1, (1, 2)), 3, (999, 1000)),
)
NO_SHARE = NO_QUOTIENT + ((3, 2), (-1, 2))
NO_MODEL = (
    None, True, 2, (), "", [], ((2, (1, 1)), 1), ((2, (1, 1)), 1, (1, 2), 0), [(2, (1, 1)), 1, (1, 2)], (2, (1, 1)),
) + tuple((learner, 1, (1, 2)) for learner in NO_LEARNER) + tuple(
    ((2, (1, 1)), depth, (1, 2)) for depth in NO_NUMBER) + tuple(((2, (1, 1)), 1, share) for share in NO_SHARE)
NO_AHEAD = NO_ROW + ((), (2,), (0, 1), (1, 1), (BIG,))
NO_TEXT = NO_ROW + ((2,), (0, 1, 2), (BIG,))


def aheads(model):
    return list(itertools.product(range(len(model[0][1])), repeat=model[1]))


def worths(model, ahead, text):
    """The worth of each tree, by the definitions."""
    learner, depth, share = model
    told = {}
    for tree in trees.all_trees(len(learner[1]), depth):
        near = ahead[depth - trees.depth_of(tree):]
        told[tree] = trees.prior(Fraction(*share), depth, tree) * trees.chance_under(learner, tree, near, text)
    return told


class MixcoderTest(unittest.TestCase):
    def test_by_the_tables(self):
        for model in MODELS:
            for ahead in aheads(model)[:3]:
                for many in range(4):
                    for text in trees.possible_texts(model[0], many):
                        for stack in (0, 5, BIG):
                            told = stack
                            for at in reversed(range(many)):
                                table = table_mixed(model, ahead, text[:at])
                                said = [letter for letter, count in enumerate(table) if count]
                                self.assertIn(text[at], said)
                                ahead_of = sum(table[:text[at]])
                                told = sum(table) * (told // table[text[at]]) + ahead_of + told % table[text[at]]
                            self.assertEqual(push_mixed(stack, model, ahead, text), told)

    def test_there_and_back(self):
        for model in MODELS:
            for ahead in aheads(model)[:3]:
                for many in range(4):
                    for text in trees.possible_texts(model[0], many):
                        for stack in (0, 1, 7, BIG):
                            pushed = push_mixed(stack, model, ahead, text)
                            self.assertEqual(pop_mixed(pushed, model, ahead, many), (text, stack))
                for stack in list(range(40)) + [BIG]:
                    text, left = pop_mixed(stack, model, ahead, 3)
                    self.assertEqual(push_mixed(left, model, ahead, text), stack)

    def test_growth_is_one_by_the_chance(self):
        text = (0, 1, 1, 0, 1)
        top, bottom = chance_mixed(MODEL, (1,), text)
        pushed = push_mixed(10 ** 80, MODEL, (1,), text)
        self.assertLess(abs(pushed * top - 10 ** 80 * bottom), bottom * 10 ** 9)

    def test_long_texts(self):
        for model, ahead in (
            (((2, (1, 1)), 3, (1, 2)), (0, 1, 1)), (((1, (1, 0, 2, 1)), 2, (1, 3)), (3, 1)),
        ):
            letters = [letter for letter, start in enumerate(model[0][1]) if start]
            text = tuple(letters[at * at % len(letters)] for at in range(16))
            pushed = push_mixed(BIG, model, ahead, text)
            self.assertEqual(pop_mixed(pushed, model, ahead, 16), (text, BIG))

    def test_without_contexts(self):
        # with the share 1 or the depth 0 the chances are the learner's, with the share 0 those under the deepest tree
        learner, deepest = (2, (1, 3)), (((), ()), ((), ()))
        for text in trees.possible_texts(learner, 4):
            told = trees.pair(trees.chance_under(learner, (), (), text))
            for model, ahead in (((learner, 0, (0, 1)), ()), ((learner, 2, (1, 1)), (0, 1))):
                pushed = push_mixed(BIG, model, ahead, text)
                self.assertEqual(pop_mixed(pushed, model, ahead, 4), (text, BIG))
                self.assertEqual(chance_mixed(model, ahead, text), told)
            told = trees.pair(trees.chance_under(learner, deepest, (0, 1), text))
            self.assertEqual(chance_mixed((learner, 2, (0, 1)), (0, 1), text), told)
        # tables without a common divisor are the same tables
        self.assertEqual(push_mixed(7, ((2, (1, 2)), 0, (0, 1)), (), (1, 0)), push_learned(7, (2, (1, 2)), (1, 0)))
        told = push_treed(7, (2, (1, 2)), ((), ()), (0,), (1, 1))
        self.assertEqual(push_mixed(7, ((2, (1, 2)), 1, (0, 1)), (0,), (1, 1)), told)

    def test_refusals(self):
        check_refusals(
            self, push_mixed, {"stack": 5, "model": MODEL, "ahead": (1,), "text": (0, 1)},
            {"stack": NO_NUMBER, "model": NO_MODEL, "ahead": NO_AHEAD, "text": NO_TEXT})
        check_refusals(
            self, pop_mixed, {"stack": 5, "model": MODEL, "ahead": (1,), "many": 2},
            {"stack": NO_NUMBER, "model": NO_MODEL, "ahead": NO_AHEAD, "many": NO_NUMBER})
        gapped = ((1, (2, 0, 1)), 1, (1, 2))
        # ahead need not be possible, the text has to be
        check_refusals(
            self, push_mixed, {"stack": 5, "model": gapped, "ahead": (1,), "text": (0, 2)},
            {"ahead": NO_ROW + ((3,),), "text": NO_ROW + ((1,), (0, 1))})


class BesttreesTest(unittest.TestCase):
    def test_best(self):
        for model in MODELS:
            if model[1] == 3:
                continue
            for ahead in aheads(model)[:4]:
                for many in range(5):
                    for text in trees.possible_texts(model[0], many)[:9]:
                        told = worths(model, ahead, text)
                        best = best_tree(model, ahead, text)
                        self.assertIn(best, told)
                        self.assertEqual(told[best], max(told.values()))
                        self.assertEqual(best_worth(model, ahead, text), trees.pair(told[best]))

    def test_shares(self):
        for model in MODELS:
            if model[1] == 3:
                continue
            for ahead in aheads(model)[:4]:
                for many in range(4):
                    for text in trees.possible_texts(model[0], many)[:9]:
                        told = worths(model, ahead, text)
                        whole = sum(told.values())
                        self.assertEqual(chance_mixed(model, ahead, text), trees.pair(whole))
                        shares = tuple(
                            (tree, trees.pair(told[tree] / whole)) for tree in sorted(told) if told[tree])
                        self.assertEqual(tree_shares(model, ahead, text), shares)

    def test_deep(self):
        model, text = ((2, (1, 2)), 3, (1, 2)), (0, 1, 1, 0, 1, 0, 0, 1, 1, 1, 0, 1, 0, 0, 1, 1)
        told = worths(model, (1, 0, 0), text)
        self.assertEqual(told[best_tree(model, (1, 0, 0), text)], max(told.values()))
        shares = tree_shares(model, (1, 0, 0), text)
        self.assertEqual(len(shares), 26)
        self.assertEqual(sum(Fraction(*share) for _, share in shares), 1)

    def test_edges(self):
        self.assertEqual(best_tree(((2, (1, 1)), 0, (0, 1)), (), (0, 1)), ())
        self.assertEqual(best_worth(((2, (1, 1)), 0, (0, 1)), (), ()), (1, 1))
        self.assertEqual(best_tree(((2, (1, 1)), 1, (1, 1)), (0,), (0, 1)), ())
        self.assertEqual(best_tree(((2, (1, 1)), 1, (0, 1)), (0,), (0, 1)), ((), ()))
        self.assertEqual(tree_shares(((2, (1, 1)), 2, (1, 1)), (0, 0), (0, 1)), (((), (1, 1)),))
        self.assertEqual(tree_shares(((2, (1, 1)), 1, (0, 1)), (0,), ()), ((((), ()), (1, 1)),))
        self.assertEqual(tree_shares(MODEL, (1,), ()), (((), (1, 2)), (((), ()), (1, 2))))

    def test_refusals(self):
        for function in (best_tree, best_worth, tree_shares):
            check_refusals(
                self, function, {"model": MODEL, "ahead": (1,), "text": (0, 1)},
                {"model": NO_MODEL, "ahead": NO_AHEAD, "text": NO_TEXT})


if __name__ == "__main__":
    unittest.main()
