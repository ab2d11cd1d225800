import math
import unittest

from pushedback.powers import choose, common_of, factorial_of, multiple_of, power
from tests.refusals import NO_INTEGER, NO_NUMBER, NO_TUPLE, check_refusals

BIG = 10 ** 60 + 7


class PowersTest(unittest.TestCase):
    def test_power(self):
        for base in (-BIG, -3, -2, -1, 0, 1, 2, 7, BIG):
            for many in (0, 1, 2, 3, 15, 16, 17):
                self.assertEqual(power(base, many), base ** many)
        self.assertEqual(power(2, 1000), 2 ** 1000)
        self.assertEqual(power(base=10, many=999), 10 ** 999)
        check_refusals(self, power, {"base": -2, "many": 3}, {"base": NO_INTEGER, "many": NO_NUMBER})

    def test_common_of(self):
        for one in (0, 1, 12, 18, BIG):
            for other in (0, 1, 12, 18, BIG * 4):
                self.assertEqual(common_of(one, other), math.gcd(one, other))
        self.assertEqual(common_of(0, 0), 0)
        check_refusals(self, common_of, {"one": 4, "other": 6}, {"one": NO_NUMBER, "other": NO_NUMBER})

    def test_multiple_of(self):
        self.assertEqual(multiple_of(()), 1)
        self.assertEqual(multiple_of((7,)), 7)
        self.assertEqual(multiple_of((4, 6, 10)), 60)
        self.assertEqual(multiple_of((BIG, BIG, 2)), 2 * BIG)
        wrong = NO_TUPLE + ((0,), (1, 0), (-1,), (True,), (2, None), ("2",), ((2,),))
        check_refusals(self, multiple_of, {"numbers": (4, 6)}, {"numbers": wrong})

    def test_choose(self):
        for many in range(8):
            for few in range(10):
                expected = len([bits for bits in range(2 ** many) if bin(bits).count("1") == few])
                self.assertEqual(choose(many, few), expected)
        self.assertEqual(choose(1000, 500), math.comb(1000, 500))
        self.assertEqual(choose(3, BIG), 0)
        check_refusals(self, choose, {"many": 5, "few": 2}, {"many": NO_NUMBER, "few": NO_NUMBER})

    def test_factorial_of(self):
        for many in (0, 1, 2, 3, 10, 400):
            self.assertEqual(factorial_of(many), math.factorial(many))
        check_refusals(self, factorial_of, {"many": 5}, {"many": NO_NUMBER})


if __name__ == "__main__":
    unittest.main()
