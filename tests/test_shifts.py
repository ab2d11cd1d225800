import itertools
import unittest

from pushedback.shifts import by_columns, by_rows, fronts_of, runs_of, text_of_fronts, text_of_runs
from tests.refusals import NO_POSITIVE, NO_ROW, NO_TUPLE, check_refusals

BIG = 10 ** 59 + 7


def fronts(letters, text):
    """The places by a list of all letters."""
    listed, places = list(range(letters)), []
    for letter in text:
        places.append(listed.index(letter))
        listed.insert(0, listed.pop(places[-1]))
    return tuple(places)


class ShiftsTest(unittest.TestCase):
    def test_fronts(self):
        for letters in range(1, 5):
            for many in range(6):
                texts = list(itertools.product(range(letters), repeat=many))
                told = [fronts_of(letters, text) for text in texts]
                self.assertEqual(told, [fronts(letters, text) for text in texts])
                self.assertEqual([text_of_fronts(letters, one) for one in told], texts)
                self.assertEqual([fronts_of(letters, text_of_fronts(letters, text)) for text in texts], texts)
        for letters in (8, 20):
            text = tuple((at * at * 3 + at) % letters for at in range(40))
            self.assertEqual(fronts_of(letters, text), fronts(letters, text))
            self.assertEqual(text_of_fronts(letters, fronts_of(letters, text)), text)
            self.assertEqual(fronts_of(letters, text_of_fronts(letters, text)), text)
        self.assertEqual(fronts_of(3, (1, 1, 0, 2)), (1, 0, 1, 2))
        self.assertEqual(fronts_of(letters=3, text=()), ())
        self.assertEqual(text_of_fronts(letters=3, fronts=()), ())
        self.assertIs(type(text_of_fronts(3, (1, 0))), tuple)
        # as many letters as there may be
        self.assertEqual(fronts_of(BIG, (BIG - 1, 5, 5, BIG - 1, 4)), (BIG - 1, 6, 0, 1, 6))
        self.assertEqual(text_of_fronts(BIG, (BIG - 1, 6, 0, 1, 6)), (BIG - 1, 5, 5, BIG - 1, 4))

    def test_runs(self):
        for many in range(7):
            for text in itertools.product((0, 1, BIG), repeat=many):
                runs = tuple((letter, len(list(group))) for letter, group in itertools.groupby(text))
                told = runs_of(text)
                self.assertIs(type(told), tuple)
                self.assertTrue(all(type(run) is tuple for run in told))
                self.assertEqual(told, runs)
                self.assertEqual(text_of_runs(runs), text)
        self.assertEqual(text_of_runs(runs=((3, 40), (0, 1))), (3,) * 40 + (0,))
        self.assertEqual(runs_of(text=(3,) * 40 + (0,)), ((3, 40), (0, 1)))

    def test_columns(self):
        for many in range(10):
            digits = tuple(range(5, 5 + many))
            for wide in list(range(1, 13)) + [BIG]:
                told = sum((digits[rest::wide] for rest in range(min(wide, many))), ())
                self.assertEqual(by_columns(wide, digits), told)
                self.assertIs(type(by_columns(wide, digits)), tuple)
                self.assertEqual(by_rows(wide, told), digits)
                self.assertIs(type(by_rows(wide, told)), tuple)
                self.assertEqual(by_columns(wide, by_rows(wide, digits)), digits)
        self.assertEqual(by_columns(2, (5, 6, 7, 8, 9)), (5, 7, 9, 6, 8))
        self.assertEqual(by_rows(wide=2, digits=(5, 7, 9, 6, 8)), (5, 6, 7, 8, 9))
        self.assertEqual(by_columns(wide=3, digits=(0, BIG, 0, 2, 2)), (0, 2, BIG, 2, 0))
        # one column, and as many as there are digits
        self.assertEqual((by_columns(1, (3, 1, 2)), by_columns(3, (3, 1, 2))), ((3, 1, 2), (3, 1, 2)))

    def test_refusals(self):
        no_text = NO_ROW + ((3,), (0, 1, 3), (BIG,))
        check_refusals(self, fronts_of, {"letters": 3, "text": (0, 2)}, {"letters": NO_POSITIVE, "text": no_text})
        check_refusals(
            self, text_of_fronts, {"letters": 3, "fronts": (0, 2)}, {"letters": NO_POSITIVE, "fronts": no_text})
        check_refusals(self, runs_of, {"text": (0, 2)}, {"text": NO_ROW})
        no_runs = NO_TUPLE + (
            ((0, 1), (0, 2)), ((0, 0),), ((-1, 1),), ((True, 1),), ((0, True),), ((0,),), ((0, 1, 1),), ([0, 1],),
            ((0, 1), None), ((0, 1), (1, 1), (1, 1)), (0, 1), ("01",), ((0, None),), ((),),
        )
        check_refusals(self, text_of_runs, {"runs": ((0, 1), (1, 2), (0, 2))}, {"runs": no_runs})
        for function in (by_columns, by_rows):
            check_refusals(self, function, {"wide": 2, "digits": (7, 0)}, {"wide": NO_POSITIVE, "digits": NO_ROW})


if __name__ == "__main__":
    unittest.main()
