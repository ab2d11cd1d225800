import unittest
from fractions import Fraction

from pushedback.endless import (
    chance_endless, chance_long, pop_endless, pop_long, push_endless, push_long,
)
from pushedback.evens import pop_even, push_even
from pushedback.tablecoder import pop_by, push_by
from tests.refusals import NO_BASE, NO_NUMBER, NO_POSITIVE, check_refusals

BIG = 10 ** 34 + 7
ENDS = ((1, 1), (1, 9), (9, 1), (2, 3))
STACKS = tuple(range(60)) + (BIG, BIG + 1)


def pair(number):
    return (number.numerator, number.denominator)


def popped_number(stack, stop, going):
    number = 0
    while True:
        letter, stack = pop_by(stack, (stop, going))
        if letter == 0:
            return number, stack
        number += 1


def popped_long(stack, stop, going, base):
    many, stack = popped_number(stack, stop, going)
    number = 0
    for at in range(many):
        digit, stack = pop_even(stack, base - 1 if at == 0 else base)
        number = number * base + digit + (1 if at == 0 else 0)
    return number, stack


class EndlessTest(unittest.TestCase):
    def test_endless(self):
        for stop, going in ENDS:
            for stack in STACKS:
                number, left = pop_endless(stack, stop, going)
                self.assertEqual((number, left), popped_number(stack, stop, going))
                self.assertEqual(push_endless(left, stop, going, number), stack)
            for stack in (0, 1, 5, BIG):
                for number in (0, 1, 2, 7, 300):
                    pushed = push_endless(stack, stop, going, number)
                    self.assertEqual(pop_endless(pushed, stop, going), (number, stack))
        self.assertEqual(pop_endless(push_endless(3, 1, 9, 1000), 1, 9), (1000, 3))

    def test_long(self):
        for stop, going in ENDS:
            for base in (2, 3, 10, 16):
                for stack in STACKS:
                    number, left = pop_long(stack, stop, going, base)
                    self.assertEqual((number, left), popped_long(stack, stop, going, base))
                    self.assertEqual(push_long(left, stop, going, base, number), stack)
                for number in (0, 1, base - 1, base, base + 1, base ** 5 - 1, base ** 5, base ** 70 + 1):
                    for stack in (0, 1, BIG):
                        pushed = push_long(stack, stop, going, base, number)
                        self.assertEqual(pop_long(pushed, stop, going, base), (number, stack))
        number = 16 ** 800 - 1
        self.assertEqual(pop_long(push_long(9, 1, 9, 16, number), 1, 9, 16), (number, 9))

    def test_long_by_steps(self):
        # 203 in base 10: three digits, the first one less 1 below 9, the others below 10
        stack = push_even(push_even(push_even(5, 10, 3), 10, 0), 9, 1)
        for letter in (0, 1, 1, 1):
            stack = push_by(stack, (2, 3), letter)
        self.assertEqual(push_long(5, 2, 3, 10, 203), stack)
        self.assertEqual(push_long(5, 2, 3, 10, 0), push_by(5, (2, 3), 0))

    def test_chances(self):
        for stop, going in ENDS:
            for number in (0, 1, 2, 50, 200):
                told = Fraction(going, stop + going) ** number * Fraction(stop, stop + going)
                self.assertEqual(chance_endless(stop, going, number), pair(told))
            for base in (2, 3, 16):
                for number in (0, 1, base - 1, base, base ** 3 - 1, base ** 3, 10 ** 59):
                    digits = []
                    left = number
                    while left:
                        digits.append(left % base)
                        left //= base
                    told = Fraction(*chance_endless(stop, going, len(digits)))
                    for at in range(len(digits)):
                        told /= base - 1 if at == 0 else base
                    self.assertEqual(chance_long(stop, going, base, number), pair(told))
                below = [Fraction(*chance_long(stop, going, base, number)) for number in range(base ** 2)]
                many = [Fraction(*chance_endless(stop, going, number)) for number in range(3)]
                self.assertEqual(sum(below), sum(many))

    def test_refusals(self):
        ends = {"stop": NO_POSITIVE, "going": NO_POSITIVE}
        good = {"stack": 5, "stop": 1, "going": 2}
        check_refusals(
            self, push_endless, {**good, "number": 3}, {"stack": NO_NUMBER, **ends, "number": NO_NUMBER})
        check_refusals(self, pop_endless, good, {"stack": NO_NUMBER, **ends})
        check_refusals(
            self, push_long, {**good, "base": 10, "number": 3},
            {"stack": NO_NUMBER, **ends, "base": NO_BASE, "number": NO_NUMBER})
        check_refusals(self, pop_long, {**good, "base": 10}, {"stack": NO_NUMBER, **ends, "base": NO_BASE})
        check_refusals(
            self, chance_endless, {"stop": 1, "going": 2, "number": 3}, {**ends, "number": NO_NUMBER})
        check_refusals(
            self, chance_long, {"stop": 1, "going": 2, "base": 10, "number": 3},
            {**ends, "base": NO_BASE, "number": NO_NUMBER})


if __name__ == "__main__":
    unittest.main()
