import itertools
import unittest
from fractions import Fraction

from pushedback.learning import chance_learned
from pushedback.mixing import chance_mixed, mass_at, table_mixed
from pushedback.quotients import shares_of
from tests import trees
from tests.refusals import NO_NUMBER, NO_QUOTIENT, NO_TUPLE, check_refusals

MODELS = (
    ((2, (1, 1)), 1, (1, 2)), ((1, (2, 1)), 2, (1, 3)), ((0, (1, 3)), 2, (0, 1)), ((1, (1, 2)), 2, (1, 1)),
    ((3, (1, 0, 2)), 1, (2, 5)), ((1, (1, 1, 1)), 1, (1, 2)), ((2, (1, 1)), 0, (1, 7)), ((2, (3,)), 2, (1, 2)),
    ((1, (0, 2)), 2, (3, 4)),
)


def aheads(model):
    return list(itertools.product(range(len(model[0][1])), repeat=model[1]))


def chance_by_trees(model, ahead, text):
    """The sum, over all trees, of the prior times the chance under the tree."""
    learner, depth, share = model
    total = Fraction(0)
    for tree in trees.all_trees(len(learner[1]), depth):
        last = ahead[len(ahead) - trees.depth_of(tree):]
        total += trees.prior(Fraction(*share), depth, tree) * trees.chance_under(learner, tree, last, text)
    return total


class MixingTest(unittest.TestCase):
    def test_chance_is_the_sum_over_all_trees(self):
        for model in MODELS:
            for ahead in aheads(model):
                for many in range(4):
                    total = 0
                    for text in trees.possible_texts(model[0], many):
                        told = chance_by_trees(model, ahead, text)
                        self.assertEqual(chance_mixed(model, ahead, text), trees.pair(told))
                        self.assertEqual(mass_at(model, ahead, text, ()), trees.pair(told))
                        total += told
                    self.assertEqual(total, 1)

    def test_mass_at(self):
        for model in MODELS:
            learner, depth, share = model
            letters = len(learner[1])
            share = Fraction(*share)
            for ahead in aheads(model)[:3]:
                for text in trees.possible_texts(learner, 4):
                    for many in range(depth + 1):
                        for context in itertools.product(range(letters), repeat=many):
                            met = self.met(context, ahead, text)
                            own = Fraction(*chance_learned(learner, met))
                            told = own
                            if many < depth:
                                product = Fraction(1)
                                for letter in range(letters):
                                    product *= Fraction(*mass_at(model, ahead, text, context + (letter,)))
                                told = share * own + (1 - share) * product
                            if not met:
                                self.assertEqual(told, 1)
                            self.assertEqual(mass_at(model, ahead, text, context), trees.pair(told))

    def met(self, context, ahead, text):
        whole = ahead + text
        places = range(len(ahead), len(whole))
        return tuple(whole[at] for at in places if all(whole[at - 1 - k] == x for k, x in enumerate(context)))

    def test_tables(self):
        for model in MODELS:
            starts = model[0][1]
            for ahead in aheads(model)[:3]:
                for many in range(3):
                    for text in trees.possible_texts(model[0], many):
                        chances = []
                        for letter, start in enumerate(starts):
                            if start:
                                chances.append(chance_mixed(model, ahead, text + (letter,)))
                            else:
                                chances.append((0, 1))
                        self.assertEqual(table_mixed(model, ahead, text), shares_of(tuple(chances)))
                        own = sum(Fraction(*chance) for chance in chances)
                        self.assertEqual(chance_mixed(model, ahead, text), trees.pair(own))

    def test_ends_of_the_share(self):
        for learner, depth in (((1, (2, 1)), 2), ((2, (1, 1, 1)), 1)):
            full = ()
            for _ in range(depth):
                full = (full,) * len(learner[1])
            ahead = (1,) * depth
            for text in trees.possible_texts(learner, 4):
                alone = chance_learned(learner, text)
                self.assertEqual(chance_mixed((learner, depth, (1, 1)), ahead, text), alone)
                self.assertEqual(chance_mixed((learner, 0, (1, 3)), (), text), alone)
                under = trees.chance_under(learner, full, ahead, text)
                self.assertEqual(chance_mixed((learner, depth, (0, 1)), ahead, text), trees.pair(under))

    def test_deep_and_long(self):
        model = ((9, (1, 9)), 3, (1, 9))
        text = (0, 1, 1, 0, 1, 0, 0, 0, 1, 1, 1, 0, 1, 0, 1, 1)
        told = chance_by_trees(model, (1, 0, 1), text)
        self.assertEqual(chance_mixed(model, (1, 0, 1), text), trees.pair(told))

    def test_refusals(self):
        learner = (1, (2, 0, 1))
        no_model = NO_TUPLE + (
            (), (learner, 2), (learner, 2, (1, 2), 0), ((1, (0, 0)), 2, (1, 2)), (learner, True, (1, 2)),
            [learner, 2, (1, 2)], (True, 2, (1, 2)),
        ) + tuple((learner, depth, (1, 2)) for depth in NO_NUMBER) + tuple((learner, 2, one) for one in NO_QUOTIENT)
        no_ahead = NO_TUPLE + ((), (0,), (0, 1, 2), (0, 3), (-1, 0), (0, True), (None, 0), [0, 1])
        no_text = NO_TUPLE + ((1,), (0, 1), (3,), (-1,), (True,), (0, None), [0, 2])
        no_context = NO_TUPLE + ((0, 1, 2), (3,), (-1,), (True,), (None,), [0])
        good = {"model": (learner, 2, (1, 2)), "ahead": (0, 1), "text": (0, 2)}
        wrong = {"model": no_model, "ahead": no_ahead, "text": no_text}
        check_refusals(self, chance_mixed, good, wrong)
        check_refusals(self, table_mixed, good, wrong)
        check_refusals(self, mass_at, {**good, "context": (1,)}, {**wrong, "context": no_context})


if __name__ == "__main__":
    unittest.main()
