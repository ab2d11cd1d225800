import itertools
import unittest

from pushedback.ranks import integer_of_number, number_of_integer, rank_of_text, text_by
from tests.refusals import NO_INTEGER, NO_NUMBER, NO_ROW, check_refusals

BIG = 10 ** 59 + 7


class RanksTest(unittest.TestCase):
    def test_integers(self):
        row = [0]
        for at in range(1, 200):
            row += [-at, at]
        for number, integer in enumerate(row):
            self.assertEqual(number_of_integer(integer), number)
            self.assertEqual(integer_of_number(number), integer)
        for number in (BIG, BIG + 1, 10 ** 999):
            self.assertEqual(number_of_integer(integer_of_number(number)), number)
        self.assertEqual((number_of_integer(-BIG), number_of_integer(integer=BIG)), (2 * BIG - 1, 2 * BIG))
        self.assertEqual((integer_of_number(number=2 * BIG - 1), integer_of_number(2 * BIG)), (-BIG, BIG))

    def test_ranks(self):
        for counts in [(), (0,), (0, 0)] + list(itertools.product(range(4), range(3), range(3))) + [(0, 2, 0, 2, 1)]:
            letters = [letter for letter, count in enumerate(counts) for _ in range(count)]
            texts = sorted(set(itertools.permutations(letters)))
            for rank, text in enumerate(texts):
                self.assertEqual(rank_of_text(text), rank)
                told = text_by(counts, rank)
                self.assertIs(type(told), tuple)
                self.assertEqual(told, text)
            check_refusals(
                self, text_by, {"counts": counts, "rank": len(texts) - 1}, {"counts": NO_ROW, "rank": (len(texts),)})
        self.assertEqual(text_by((1, 2), 2), (1, 1, 0))
        self.assertEqual(text_by(counts=(), rank=0), ())
        # letters of any size, in their order
        self.assertEqual([rank_of_text(text) for text in ((5, BIG, 7), (BIG, 7, 5), (7, 5, BIG))], [1, 5, 2])
        self.assertEqual(rank_of_text(text=()), 0)

    def test_long_texts(self):
        counts = (5,) * 8
        many = 40 * 39
        for number in range(38, 0, -1):
            many *= number
        many //= 120 ** 8
        self.assertEqual(text_by(counts, 0), tuple(letter for letter in range(8) for _ in range(5)))
        self.assertEqual(text_by(counts, many - 1), tuple(letter for letter in range(7, -1, -1) for _ in range(5)))
        for rank in (0, 1, many // 3, many - 2, many - 1):
            self.assertEqual(rank_of_text(text_by(counts, rank)), rank)
        check_refusals(self, text_by, {"counts": counts, "rank": 7}, {"rank": (many, many + 1, BIG ** 3)})

    def test_refusals(self):
        check_refusals(self, number_of_integer, {"integer": -3}, {"integer": NO_INTEGER})
        check_refusals(self, integer_of_number, {"number": 3}, {"number": NO_NUMBER})
        check_refusals(self, rank_of_text, {"text": (1, 0)}, {"text": NO_ROW})
        check_refusals(
            self, text_by, {"counts": (1, 2), "rank": 2}, {"counts": NO_ROW, "rank": NO_NUMBER + (3, 4, BIG)})


if __name__ == "__main__":
    unittest.main()
