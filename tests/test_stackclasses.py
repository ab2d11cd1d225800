import unittest

from pushedback.digitrows import added, row_of, stack_of, taken
from pushedback.errors import InvalidText, NotUsable
from pushedback.evens import pop_even
from pushedback.stackclasses import Rowed, Stack
from tests.refusals import NO_BASE, NO_NUMBER, NO_POSITIVE, NO_ROW, NO_STRING, check_refusals, refused_word

BIG = 10 ** 60 + 7


class Mine(Stack):
    pass


class StackTest(unittest.TestCase):
    def test_as_the_functions(self):
        for number in (0, 1, 4, 21, BIG):
            for one in (Stack(number), Stack(number=number), Mine(number), Rowed(3, row_of(3, number))):
                self.assertEqual(one.number_now, number)
                for base in (2, 10, 256):
                    self.assertEqual(one[base], row_of(base, number))
                digit, left = one(3)
                self.assertEqual((digit, left.number_now), pop_even(number, 3))
                self.assertIs(type(left), Stack)
                self.assertIs(type(one(many=2)), tuple)
                for made, told in (
                    (one.with_even(5, 3), 5 * number + 3),
                    (one.with_even(many=5, digit=3), 5 * number + 3),
                    (one.with_digits(2, (1, 0)), added(2, number, (1, 0))),
                    (one.with_digits(base=2, digits=()), number),
                ):
                    self.assertIs(type(made), Stack)
                    self.assertEqual(made.number_now, told)
                many = len(row_of(2, number)) // 2
                digits, ahead = one.without(2, many)
                self.assertIs(type(ahead), Stack)
                self.assertEqual((digits, ahead.number_now), taken(2, number, many))
                self.assertEqual(one.number_now, number)

    def test_str_and_equality(self):
        self.assertEqual(str(Stack(0)), "0")
        self.assertEqual(str(Stack(BIG)), str(BIG))
        self.assertEqual(str(Mine(17)), "17")
        self.assertIs(Stack(4) == Rowed(2, (0, 1)), True)
        self.assertIs(Rowed(2, (0, 1)) == Stack(4), True)
        self.assertIs(Rowed(2, (0, 1)) == Rowed(10, (3,)), True)
        self.assertIs(Stack(4) == Stack(5), False)
        self.assertIs(Stack(4) != Stack(4), False)
        self.assertIs(Mine(1) == Stack(1), True)
        for other in (4, True, None, "4", (4,), [4], (0, 1)):
            self.assertIs(Stack(4) == other, False)
            self.assertIs(Rowed(2, (0, 1)) == other, False)
        self.assertIs(Stack(1) == True, False)

    def test_of_row(self):
        for maker in (Stack, Rowed, Mine, Stack(3)):
            one = maker.of_row(2, 0, 1)
            self.assertIs(type(one), Stack)
            self.assertEqual(one.number_now, 4)
        self.assertEqual(Stack.of_row(10), Stack(0))
        self.assertEqual(Stack.of_row(base=10), Stack(0))
        for base in NO_BASE:
            self.assertEqual(refused_word(Stack.of_row, base, 0, 1), "base")
            self.assertEqual(refused_word(Stack.of_row, base, None), "base")
        for digit in (2, -1, True, None, "0", (0,), [0]):
            self.assertEqual(refused_word(Stack.of_row, 2, 0, digit), "digits")

    def test_rowed(self):
        one = Rowed(base=10, digits=(0, 7, 1))
        self.assertEqual((one.base_now, one.digits_now), (10, (0, 7, 1)))
        self.assertEqual(one.number_now, stack_of(10, (0, 7, 1)))
        self.assertEqual((len(one), list(one), tuple(one)), (3, [0, 7, 1], (0, 7, 1)))
        self.assertEqual(str(one), "stack 10 0 7 1")
        self.assertEqual([len(Rowed(2, ())), list(Rowed(2, ())), str(Rowed(2, ()))], [0, [], "stack 2"])
        self.assertTrue(isinstance(one, Stack))

    def test_rowed_added(self):
        one = Rowed(3, (0, 2))
        for other in ((), (1,), (2, 0, 0)):
            whole = one + other
            self.assertIs(type(whole), Rowed)
            self.assertEqual((whole.base_now, whole.digits_now), (3, (0, 2) + other))
        self.assertEqual(one.digits_now, (0, 2))
        for other in NO_ROW + ((3,), (0, 3), Rowed(3, (1,)), Stack(1)):
            self.assertEqual(refused_word(lambda added: one + added, other), "other")

    def test_read(self):
        for maker in (Rowed, Rowed(2, ())):
            one = maker.read("stack 10 0 7")
            self.assertIs(type(one), Rowed)
            self.assertEqual((one.base_now, one.digits_now), (10, (0, 7)))
        self.assertEqual(Rowed.read(text="stack 2").digits_now, ())
        self.assertEqual(Rowed.read(str(Rowed(256, (255, 0)))).digits_now, (255, 0))
        with self.assertRaises(InvalidText) as caught:
            Rowed.read("stack 2 0 2")
        self.assertEqual((caught.exception.line, caught.exception.field), (0, 3))
        for text in NO_STRING:
            self.assertEqual(refused_word(Rowed.read, text), "text")

    def test_refusals(self):
        one = Rowed(2, (0, 1))
        check_refusals(self, Stack, {"number": 4}, {"number": NO_NUMBER + (one,)})
        digits = NO_ROW + ((2,), (0, 2), one)
        check_refusals(self, Rowed, {"base": 2, "digits": (0, 1)}, {"base": NO_BASE, "digits": digits})
        for base in NO_BASE:
            self.assertEqual(refused_word(lambda at: one[at], base), "base")
        for many in NO_POSITIVE:
            self.assertEqual(refused_word(one, many), "many")
        for function, good, wrong in (
            (one.with_even, {"many": 3, "digit": 2}, {"many": NO_POSITIVE, "digit": NO_NUMBER + (3,)}),
            (one.with_digits, {"base": 2, "digits": (1,)}, {"base": NO_BASE, "digits": digits}),
            (one.without, {"base": 2, "many": 1}, {"base": NO_BASE, "many": NO_NUMBER + (3, BIG)}),
        ):
            check_refusals(self, function, good, wrong)

    def test_a_stack_is_not_iterated_over(self):
        with self.assertRaises(TypeError):
            list(Stack(4))
        with self.assertRaises(NotUsable):
            Stack(4)[1]


if __name__ == "__main__":
    unittest.main()
