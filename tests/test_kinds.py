import unittest

from pushedback.kinds import is_base, is_cuts, is_digits, is_integer, is_number, is_quotient, is_text
from tests.refusals import NO_BASE, NO_NUMBER, NO_QUOTIENT, check_refusals

BIG = 10 ** 60 + 7


class KindsTest(unittest.TestCase):
    def check(self, judge, yes, no):
        for thing in yes:
            self.assertIs(judge(thing), True, thing)
            self.assertIs(judge(thing=thing), True, thing)
        for thing in no:
            self.assertIs(judge(thing), False, thing)
            self.assertIs(judge(thing=thing), False, thing)

    def test_is_integer(self):
        self.check(is_integer, (0, 1, -1, BIG, -BIG), (True, False, None, "", "1", (), (1,), [], [1]))

    def test_is_number(self):
        self.check(is_number, (0, 1, BIG), (-1, -BIG, True, False, None, "0", (), (0,), [0]))

    def test_is_base(self):
        self.check(is_base, (2, 3, 10, 255, 256), NO_BASE)

    def test_is_quotient(self):
        yes = ((0, 1), (1, 1), (-1, 1), (5, 1), (-5, 7), (BIG, BIG - 1), (1, BIG))
        self.check(is_quotient, yes, NO_QUOTIENT + ((2, 2), (-2, 2), (0, BIG), (BIG, BIG), (6, 4), (0, 0)))

    def test_is_digits(self):
        for thing in ((), (0,), (2, 0, 1), (2,) * 4000):
            self.assertIs(is_digits(3, thing), True)
        for thing in ((3,), (0, 3), (-1,), (True,), (0, None), ("0",), [0], [], "01", 0, None, True, ((),)):
            self.assertIs(is_digits(3, thing), False, thing)
        self.assertIs(is_digits(256, (255,)), True)
        self.assertIs(is_digits(256, (256,)), False)
        check_refusals(self, is_digits, {"base": 2, "thing": (0, 1)}, {"base": NO_BASE})

    def test_is_text(self):
        for letters, thing in ((0, ()), (1, (0, 0)), (3, (2, 1, 0)), (BIG, (BIG - 1,))):
            self.assertIs(is_text(letters, thing), True)
        for letters, thing in ((0, (0,)), (1, (1,)), (3, (0, 3)), (3, (True,)), (3, [0]), (3, "0"), (3, None)):
            self.assertIs(is_text(letters, thing), False)
        check_refusals(self, is_text, {"letters": 2, "thing": (0, 1)}, {"letters": NO_NUMBER})

    def test_is_cuts(self):
        for many, thing in ((0, ()), (0, (0, 0)), (4, (1, 1, 4)), (4, (0, 4)), (BIG, (BIG, BIG))):
            self.assertIs(is_cuts(many, thing), True)
        for many, thing in (
            (0, (1,)), (4, (5,)), (4, (1, 0)), (4, (0, 2, 1)), (4, (-1, 0)), (4, (True,)), (4, [0]), (4, 0), (4, None),
        ):
            self.assertIs(is_cuts(many, thing), False)
        check_refusals(self, is_cuts, {"many": 4, "thing": (1,)}, {"many": NO_NUMBER})


if __name__ == "__main__":
    unittest.main()
