import unittest

from pushedback.besttrees import best_tree, tree_shares
from pushedback.errors import InvalidText
from pushedback.learning import chance_of_counts
from pushedback.mixcoder import pop_mixed, push_mixed
from pushedback.mixing import chance_mixed, table_mixed
from pushedback.modelclasses import Mixed, Single
from pushedback.modeltexts import model_line
from tests import trees
from tests.refusals import NO_LEARNER, NO_NUMBER, NO_ROW, NO_STRING, check_refusals, refused_word
from tests.test_mixcoder import MODEL, MODELS, NO_AHEAD, NO_MODEL, NO_TEXT, aheads

BIG = 10 ** 60 + 7


class Mine(Mixed):
    pass


class MySingle(Single):
    pass


class MixedTest(unittest.TestCase):
    def every(self):
        """Objects with their models, their texts ahead, and a possible text."""
        for model in MODELS:
            ahead = aheads(model)[-1]
            text = trees.possible_texts(model[0], 3)[-1]
            yield Mixed(model, ahead), model, ahead, text
            yield Mine(model=model, ahead=ahead), model, ahead, text
        for learner in ((2, (1, 1)), (1, (0, 2)), (3, (1, 0, 2)), (0, (4,))):
            text = trees.possible_texts(learner, 3)[-1]
            yield Single(learner), (learner, 0, (1, 1)), (), text
            yield MySingle(learner=learner), (learner, 0, (1, 1)), (), text

    def test_as_the_functions(self):
        for one, model, ahead, text in self.every():
            self.assertEqual((one.model_now, one.ahead_now), (model, ahead))
            self.assertEqual((one.learner_now, one.depth_now, one.share_now), model)
            self.assertEqual(one(text), chance_mixed(model, ahead, text))
            self.assertEqual(one(text=text), chance_mixed(model, ahead, text))
            self.assertEqual(one[text], table_mixed(model, ahead, text))
            self.assertEqual(one[()], table_mixed(model, ahead, ()))
            for stack in (0, 5, BIG):
                pushed = one.push_on(stack, text)
                self.assertEqual(pushed, push_mixed(stack, model, ahead, text))
                self.assertEqual(one.pop_off(pushed, 3), (text, stack))
                self.assertEqual(one.pop_off(stack=stack, many=2), pop_mixed(stack, model, ahead, 2))
            self.assertEqual(one.best(text), best_tree(model, ahead, text))
            self.assertEqual(one.shares(text=text), tree_shares(model, ahead, text))
            self.assertEqual(str(one), model_line(model))

    def test_trees(self):
        for one, model, ahead, text in self.every():
            told = sorted(trees.all_trees(len(model[0][1]), model[1]))
            self.assertEqual(list(one), told)
            self.assertEqual(tuple(one), tuple(told))
            self.assertEqual(len(one), len(told))
            for thing in told:
                self.assertIs(thing in one, True)
            odd = ((told[-1],) * len(model[0][1]), ((),) * (len(model[0][1]) + 1), [], None, True, 0, "", (0,), ([],),
                   one, (None,) * len(model[0][1]))
            for thing in odd:
                self.assertIs(thing in one, False, (model, thing))

    def test_equality(self):
        one = Mixed(MODEL, (1,))
        for other in (Mixed(MODEL, (1,)), Mine(MODEL, (1,)), one):
            self.assertIs(one == other, True)
            self.assertIs(other == one, True)
        for other in (Mixed(MODEL, (0,)), Mixed(((2, (1, 1)), 1, (1, 3)), (1,)), MODEL, (MODEL, (1,)), None, True, "",
                      Single((2, (1, 1))), list(one)):
            self.assertIs(one == other, False)
        self.assertIs(Single((2, (1, 1))) == Mixed(((2, (1, 1)), 0, (1, 1)), ()), True)
        self.assertIs(Mine(((2, (1, 1)), 0, (1, 1)), ()) == MySingle((2, (1, 1))), True)
        self.assertIs(Single((2, (1, 1))) == Mixed(((2, (1, 1)), 0, (1, 2)), ()), False)

    def test_read(self):
        for model in MODELS:
            ahead = aheads(model)[-1]
            for maker in (Mixed, Mine, Single, Mixed(MODEL, (1,))):
                one = maker.read(model_line(model), *ahead)
                self.assertIs(type(one), Mixed)
                self.assertEqual((one.model_now, one.ahead_now), (model, ahead))
        self.assertEqual(Mixed.read(text="model 2 1 1 depth 0 share 1 1"), Single((2, (1, 1))))
        for text in NO_STRING:
            self.assertEqual(refused_word(Mixed.read, text), "text")
            self.assertEqual(refused_word(Mixed.read, text, None), "text")
        for ahead in ((), (2,), (0, 1), (True,), (None,), ((1,),), (-1,), ("1",)):
            self.assertEqual(refused_word(Mixed.read, model_line(MODEL), *ahead), "ahead")
            with self.assertRaises(InvalidText) as caught:
                Mixed.read("model 2 1 1 depth 1 share 2 1", *ahead)
            self.assertEqual((caught.exception.line, caught.exception.field), (0, 8))

    def test_single(self):
        for learner in ((2, (1, 1)), (1, (2, 0, 1)), (0, (4,))):
            for counts in ((0,) * len(learner[1]), tuple(2 if start else 0 for start in learner[1])):
                self.assertEqual(Single(learner).by_counts(counts), chance_of_counts(learner, counts))
                self.assertEqual(MySingle(learner).by_counts(counts=counts), chance_of_counts(learner, counts))
        self.assertTrue(issubclass(Single, Mixed))
        check_refusals(self, Single, {"learner": (2, (1, 1))}, {"learner": NO_LEARNER})
        wrong = NO_ROW + ((), (1,), (1, 1), (1, 1, 1), (-1, 0, 0), (1, 0, True))
        check_refusals(self, Single((1, (2, 0, 1))).by_counts, {"counts": (2, 0, 1)}, {"counts": wrong})

    def test_refusals(self):
        check_refusals(self, Mixed, {"model": MODEL, "ahead": (1,)}, {"model": NO_MODEL, "ahead": NO_AHEAD})
        for one in (Mixed(MODEL, (1,)), Single((2, (1, 1)))):
            for text in NO_TEXT + ([0], None, one):
                self.assertEqual(refused_word(one, text), "text")
                self.assertEqual(refused_word(lambda at: one[at], text), "text")
                self.assertEqual(refused_word(one.best, text), "text")
                self.assertEqual(refused_word(one.shares, text), "text")
            check_refusals(self, one.push_on, {"stack": 5, "text": (0, 1)}, {"stack": NO_NUMBER, "text": NO_TEXT})
            check_refusals(self, one.pop_off, {"stack": 5, "many": 2}, {"stack": NO_NUMBER, "many": NO_NUMBER})


if __name__ == "__main__":
    unittest.main()
