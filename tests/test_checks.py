import itertools
import unittest

from pushedback.checks import is_spoilt, pop_check, push_check, seen_apart
from pushedback.errors import Spoilt
from tests import streams_by_hand
from tests.refusals import NO_BASE, NO_NUMBER, NO_ROW, check_refusals

BIG = 10 ** 59 + 7
PRIMES = [number for number in range(2, 300) if all(number % lesser for lesser in range(2, number))]
NO_MODULUS = NO_NUMBER + (0, 1, 4, 9, 289, 299, 300, 307, BIG)
NO_STREAM_BASE = NO_BASE + (2,)


class ChecksTest(unittest.TestCase):
    def test_checks(self):
        self.assertEqual((PRIMES[:4], PRIMES[-1], len(PRIMES)), ([2, 3, 5, 7], 293, 62))
        for modulus in PRIMES:
            for stack in (0, 1, 7, modulus, 292, BIG, 10 ** 900):
                after = push_check(stack, modulus)
                self.assertEqual(after, modulus * stack)
                self.assertIs(is_spoilt(after, modulus), False)
                self.assertEqual(pop_check(after, modulus), stack)
                for spoilt in (after + 1, after + modulus - 1):
                    self.assertIs(is_spoilt(spoilt, modulus), True)
                    with self.assertRaises(Spoilt) as caught:
                        pop_check(spoilt, modulus)
                    self.assertEqual(caught.exception.frame, spoilt)
        self.assertEqual(push_check(stack=7, modulus=5), 35)
        self.assertEqual(pop_check(stack=35, modulus=5), 7)
        self.assertIs(is_spoilt(stack=35, modulus=3), True)

    def test_seen_apart(self):
        for base, modulus in ((3, 2), (3, 5), (4, 3), (5, 7), (4, 293)):
            rows = [row for many in range(4) for row in itertools.product(range(base - 1), repeat=many)]
            for one, other in itertools.product(rows, repeat=2):
                if len(one) == len(other):
                    apart = streams_by_hand.stack_of(base - 1, one) - streams_by_hand.stack_of(base - 1, other)
                    self.assertIs(seen_apart(base, modulus, one, other), apart % modulus != 0)
        self.assertIs(seen_apart(4, 5, (0, 0, 0), (0, 1, 2)), False)
        self.assertIs(seen_apart(base=256, modulus=7, one=(254, 0), other=(0, 254)), True)
        self.assertIs(seen_apart(3, 5, (), ()), False)
        # a prime above the base sees one digit changed, and two neighbours that change their places
        for base, modulus in ((3, 5), (5, 7), (4, 5)):
            for row in itertools.product(range(base - 1), repeat=4):
                for at, digit in itertools.product(range(4), range(base - 1)):
                    changed = row[:at] + (digit,) + row[at + 1:]
                    self.assertIs(seen_apart(base, modulus, row, changed), changed != row)

    def test_refusals(self):
        for function, stack in ((push_check, 7), (pop_check, 35), (is_spoilt, 7)):
            check_refusals(self, function, {"stack": stack, "modulus": 5}, {"stack": NO_NUMBER, "modulus": NO_MODULUS})
        check_refusals(
            self, seen_apart, {"base": 4, "modulus": 5, "one": (0, 2), "other": (1, 1)},
            {"base": NO_STREAM_BASE, "modulus": NO_MODULUS, "one": NO_ROW + ((3,), (0, BIG)),
             "other": NO_ROW + ((), (1,), (1, 1, 1), (1, 3), (True, 1))})


if __name__ == "__main__":
    unittest.main()
