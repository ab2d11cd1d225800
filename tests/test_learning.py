import itertools
import unittest
from fractions import Fraction

from pushedback.learning import chance_learned, chance_of_counts, pop_learned, push_learned, table_after
from pushedback.learnkinds import depth_of, is_learner, is_model, is_share, is_tree
from pushedback.tablecoder import push_by
from tests.refusals import NO_LEARNER, NO_NUMBER, NO_POSITIVE, NO_QUOTIENT, NO_TUPLE, check_refusals

BIG = 10 ** 60 + 7
LEARNERS = ((2, (1, 1)), (0, (3, 1)), (1, (0, 2, 1)), (9, (9, 9, 9, 9)), (3, (0, 5)), (1, (4,)))
STACKS = tuple(range(40)) + (BIG, BIG + 1)
# over the letters of (2, 0, 1), whose letter 1 is not possible
NO_TEXT = NO_TUPLE + ((1,), (0, 1), (3,), (-1,), (True,), (0, None), ("0",), [0, 2], ((0,),))


def texts(learner, most):
    letters = [k for k, start in enumerate(learner[1]) if start]
    for many in range(most + 1):
        yield from itertools.product(letters, repeat=many)


def pair(number):
    return (number.numerator, number.denominator)


def chance(learner, text):
    """The chance by the definition, letter after letter."""
    gain, starts = learner
    counts = list(starts)
    product = Fraction(1)
    for letter in text:
        product *= Fraction(counts[letter], sum(counts))
        counts[letter] += gain
    return product


class LearnkindsTest(unittest.TestCase):
    def test_is_learner(self):
        for thing in LEARNERS + ((BIG, (BIG, 0)),):
            self.assertIs(is_learner(thing), True)
        for thing in NO_LEARNER:
            self.assertIs(is_learner(thing), False, thing)

    def test_is_tree(self):
        yes = ((), ((), ()), ((), ((), ())), (((), ()), ((), ())))
        no = (((),), ((), (), ()), ((), ((),)), ((), None), ((), []), [(), ()], 0, True, "", "()", None, (0, 0), [])
        for thing in yes:
            self.assertIs(is_tree(2, thing), True)
        for thing in no:
            self.assertIs(is_tree(2, thing), False, thing)
        self.assertIs(is_tree(3, ((), (), ((), (), ()))), True)
        self.assertIs(is_tree(3, ((), (), ((), ()))), False)
        self.assertIs(is_tree(1, (((),),)), True)
        deep = ()
        for _ in range(29):
            deep = ((), deep)
        self.assertIs(is_tree(2, deep), True)
        check_refusals(self, is_tree, {"letters": 2, "thing": ()}, {"letters": NO_POSITIVE})

    def test_is_share(self):
        for thing in ((0, 1), (1, 1), (1, 2), (BIG - 1, BIG)):
            self.assertIs(is_share(thing), True)
        for thing in NO_QUOTIENT + ((3, 2), (-1, 2), (2, 1), (BIG, BIG - 1), 0, 1):
            self.assertIs(is_share(thing), False, thing)

    def test_is_model(self):
        learner = (2, (1, 1))
        for thing in ((learner, 0, (0, 1)), (learner, 3, (1, 1)), (learner, BIG, (1, 2))):
            self.assertIs(is_model(thing), True)
        wrong = NO_TUPLE + (
            (), (learner, 1), (learner, 1, (1, 2), 0), (learner, True, (1, 2)), (learner, -1, (1, 2)),
            (learner, 1, (2, 4)), (learner, 1, (3, 2)), (learner, 1, 1), ((2, (0, 0)), 1, (1, 2)),
            [learner, 1, (1, 2)], ((1, 2), 1, learner),
        )
        for thing in wrong:
            self.assertIs(is_model(thing), False, thing)

    def test_depth_of(self):
        self.assertEqual(depth_of(()), 0)
        self.assertEqual(depth_of(((), (), ())), 1)
        self.assertEqual(depth_of(((((),),),)), 3)
        self.assertEqual(depth_of(((), ((), ()))), 2)
        self.assertEqual(depth_of((((), ((), ())), ())), 3)
        wrong = NO_TUPLE + (((), ((),)), ((), (), ((), ())), (0,), ((), None), ((), []), [()], ("",))
        check_refusals(self, depth_of, {"tree": ((), ())}, {"tree": wrong})


class LearningTest(unittest.TestCase):
    def test_table_after(self):
        for learner in LEARNERS:
            gain, starts = learner
            for text in texts(learner, 3):
                told = tuple(start + gain * text.count(k) for k, start in enumerate(starts))
                self.assertEqual(table_after(learner, text), told)

    def test_chances(self):
        for learner in LEARNERS:
            sums = {}
            for text in texts(learner, 4):
                told = chance(learner, text)
                self.assertEqual(chance_learned(learner, text), pair(told))
                counts = tuple(text.count(k) for k in range(len(learner[1])))
                self.assertEqual(chance_of_counts(learner, counts), pair(told))
                self.assertEqual(chance_learned(learner, text[::-1]), pair(told))
                sums[len(text)] = sums.get(len(text), 0) + told
            self.assertEqual(list(sums.values()), [1] * len(sums))

    def test_long_texts(self):
        learner = (9, (1, 9, 3))
        text = (0, 1, 2, 2, 1, 0, 1, 1, 1, 1) * 4
        self.assertEqual(chance_learned(learner, text), pair(chance(learner, text)))
        self.assertEqual(chance_of_counts(learner, (8, 24, 8)), pair(chance(learner, text)))
        pushed = push_learned(BIG, learner, text)
        self.assertEqual(pop_learned(pushed, learner, 40), (text, BIG))

    def test_pushes_and_pops(self):
        for learner in LEARNERS:
            for many in range(4):
                for stack in STACKS:
                    text, left = pop_learned(stack, learner, many)
                    self.assertEqual(len(text), many)
                    self.assertEqual(push_learned(left, learner, text), stack)
            for text in texts(learner, 3):
                for stack in (0, 1, 5, BIG):
                    pushed = push_learned(stack, learner, text)
                    self.assertEqual(pop_learned(pushed, learner, len(text)), (text, stack))

    def test_order_of_pushing(self):
        stack = 5
        for letter, table in ((1, (5, 1)), (0, (3, 1)), (0, (1, 1))):
            stack = push_by(stack, table, letter)
        self.assertEqual(push_learned(5, (2, (1, 1)), (0, 0, 1)), stack)
        self.assertEqual(push_learned(5, (2, (1, 1)), ()), 5)
        self.assertEqual(pop_learned(5, (2, (1, 1)), 0), ((), 5))

    def test_refusals(self):
        learner = (1, (2, 0, 1))
        for function in (table_after, chance_learned):
            check_refusals(
                self, function, {"learner": learner, "text": (0, 2)}, {"learner": NO_LEARNER, "text": NO_TEXT})
        counts = NO_TUPLE + (
            (), (1, 0), (1, 0, 1, 0), (1, 1, 1), (-1, 0, 0), (True, 0, 0), (0, 0, None), [1, 0, 1])
        check_refusals(
            self, chance_of_counts, {"learner": learner, "counts": (1, 0, 1)},
            {"learner": NO_LEARNER, "counts": counts})
        check_refusals(
            self, push_learned, {"stack": 5, "learner": learner, "text": (0, 2)},
            {"stack": NO_NUMBER, "learner": NO_LEARNER, "text": NO_TEXT})
        check_refusals(
            self, pop_learned, {"stack": 5, "learner": learner, "many": 3},
            {"stack": NO_NUMBER, "learner": NO_LEARNER, "many": NO_NUMBER})


if __name__ == "__main__":
    unittest.main()
