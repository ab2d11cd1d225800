import itertools
import unittest
from fractions import Fraction

from pushedback.bags import bag_of, chance_of_bag, orders_of_bag, pop_bag, push_bag
from pushedback.learning import chance_learned, pop_learned, push_learned
from pushedback.tablecoder import pop_by, push_by
from tests.refusals import NO_LEARNER, NO_NUMBER, NO_ROW, NO_TUPLE, check_refusals
from tests.trees import pair, possible_texts

BIG = 10 ** 60 + 7
LEARNERS = ((2, (1, 1)), (1, (0, 2, 1)), (0, (3, 1)), (9, (1, 9, 3)), (1, (4,)))


def counts(text, letters):
    return tuple(text.count(letter) for letter in range(letters))


def popped(stack, learner, many):
    """The pop, step by step, by the public functions."""
    text, stack = pop_learned(stack, learner, many)
    for at in reversed(range(many)):
        stack = push_by(stack, counts(text[at:], len(learner[1])), text[at])
    return tuple(sorted(text)), stack


def pushed(stack, learner, bag):
    """The push, step by step, by the public functions."""
    rest, text = list(bag), ()
    while rest:
        letter, stack = pop_by(stack, counts(rest, len(learner[1])))
        rest.remove(letter)
        text += (letter,)
    return push_learned(stack, learner, text)


class BagsTest(unittest.TestCase):
    def test_bags_and_orders(self):
        for text in itertools.product(range(3), repeat=4):
            bag = bag_of(text)
            self.assertEqual(bag, tuple(sorted(text)))
            self.assertEqual(orders_of_bag(bag), len(set(itertools.permutations(text))))
        self.assertEqual(bag_of(()), ())
        self.assertEqual(orders_of_bag(()), 1)
        self.assertEqual(bag_of((BIG, 1, BIG)), (1, BIG, BIG))
        self.assertEqual(orders_of_bag((1, BIG, BIG)), 3)
        self.assertEqual(orders_of_bag((0,) * 20 + (1,) * 20), 137846528820)

    def test_chances(self):
        for learner in LEARNERS:
            for many in range(5):
                total = 0
                for bag in {tuple(sorted(text)) for text in possible_texts(learner, many)}:
                    told = sum(
                        Fraction(*chance_learned(learner, text))
                        for text in possible_texts(learner, many) if tuple(sorted(text)) == bag)
                    self.assertEqual(chance_of_bag(learner, bag), pair(told))
                    total += told
                self.assertEqual(total, 1)

    def test_pushes_and_pops(self):
        for learner in LEARNERS:
            for many in range(5):
                for stack in list(range(50)) + [BIG]:
                    bag, left = pop_bag(stack, learner, many)
                    self.assertEqual((bag, left), popped(stack, learner, many))
                    self.assertEqual(push_bag(left, learner, bag), stack)
                for bag in {tuple(sorted(text)) for text in possible_texts(learner, many)}:
                    for stack in (0, 1, 5, 77, BIG):
                        whole = push_bag(stack, learner, bag)
                        self.assertEqual(whole, pushed(stack, learner, bag))
                        self.assertEqual(pop_bag(whole, learner, many), (bag, stack))
        bag = (0, 0, 1, 1, 1, 1, 2, 2)
        self.assertEqual(pop_bag(push_bag(BIG, (9, (1, 9, 3)), bag), (9, (1, 9, 3)), 8), (bag, BIG))

    def test_refusals(self):
        learner = (1, (2, 0, 1))
        check_refusals(self, bag_of, {"text": (2, 0)}, {"text": NO_ROW})
        check_refusals(self, orders_of_bag, {"bag": (0, 2, 2)}, {"bag": NO_ROW + ((1, 0), (0, 2, 1))})
        no_bag = NO_TUPLE + ((2, 0), (1,), (0, 1, 2), (3,), (-1, 0), (True,), (0, None), [0, 2])
        check_refusals(
            self, chance_of_bag, {"learner": learner, "bag": (0, 2)}, {"learner": NO_LEARNER, "bag": no_bag})
        check_refusals(
            self, push_bag, {"stack": 5, "learner": learner, "bag": (0, 2)},
            {"stack": NO_NUMBER, "learner": NO_LEARNER, "bag": no_bag})
        check_refusals(
            self, pop_bag, {"stack": 5, "learner": learner, "many": 2},
            {"stack": NO_NUMBER, "learner": NO_LEARNER, "many": NO_NUMBER})


if __name__ == "__main__":
    unittest.main()
