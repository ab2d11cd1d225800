import itertools
import unittest

from pushedback.fieldrows import apart_from, rank_in, settled_rows, sum_for
from tests import fieldsums
from tests.fieldsums import NO_SIZE, PLAN
from tests.refusals import NO_NUMBER, NO_ROW, NO_TUPLE, check_refusals, refused_word

BIG = 10 ** 59 + 7
NO_ROWS = NO_TUPLE + (
    ((1,),), ((1, 0), (1,)), ((1, 0), (1, 0, 0)), ((1, 5),), ((1, True),), ([1, 0],), [(1, 0)], (1, 0), ((1, None),),
    ((1, 0), None), ((),), ((1, -1),), ((1, BIG),),
)


def cases():
    """Sizes, widths and rows: all of some small ones, and some that hang on one another in many ways."""
    for size, wide, most in ((2, 0, 3), (2, 1, 3), (2, 2, 3), (2, 3, 2), (3, 0, 2), (3, 1, 2), (3, 2, 2)):
        for many in range(most + 1):
            for rows in itertools.product(list(fieldsums.all_rows(size, wide)), repeat=many):
                yield size, wide, rows
    for size, wide, many in ((5, 3, 12), (7, 3, 6), (16, 2, 9)):
        for step in range(1, many + 1):
            numbers = [(at * at * step + 3 * at + step // 3) % size for at in range(3 * wide)]
            rows = tuple(tuple(numbers[at:at + wide]) for at in range(0, 3 * wide, wide))
            yield size, wide, rows[:step % 4]
            # rows of noughts, equal rows, sums of others
            yield size, wide, (rows[0], (0,) * wide, rows[0], fieldsums.added(size, rows[0], rows[1]), rows[1])
    for step in range(1, 9):
        yield 256, 2, ((step, 7 * step), (0, 0), (200 + step, 31 * step))[:step % 4]


def lead(row):
    return next(at for at, number in enumerate(row) if number)


class FieldrowsTest(unittest.TestCase):
    def test_settled(self):
        for size, wide, rows in cases():
            told = settled_rows(size, wide, rows)
            self.assertTrue(type(told) is tuple and all(type(row) is tuple for row in told))
            self.assertTrue(all(len(row) == wide and any(row) for row in told))
            if size < 256:
                self.assertEqual(fieldsums.sums(size, wide, told), fieldsums.sums(size, wide, rows), (size, rows))
                self.assertEqual(len(fieldsums.sums(size, wide, rows)), size ** len(told))
            leads = [lead(row) for row in told]
            self.assertEqual(leads, sorted(set(leads)))
            for at, row in zip(leads, told):
                self.assertEqual([other[at] for other in told], [1 if other is row else 0 for other in told])
            self.assertEqual(rank_in(size, wide, rows), len(told))
            self.assertEqual(settled_rows(size, wide, rows[::-1]), told)
            self.assertEqual(settled_rows(size, wide, told), told)
        self.assertEqual(settled_rows(2, 3, ((1, 1, 0), (1, 0, 1))), ((1, 0, 1), (0, 1, 1)))
        self.assertEqual(settled_rows(size=5, wide=0, rows=()), ())
        self.assertEqual(settled_rows(5, 0, ((), ())), ())
        self.assertEqual(settled_rows(5, 2, ((0, 0), (0, 3))), ((0, 1),))
        self.assertEqual(rank_in(size=5, wide=2, rows=PLAN), 2)

    def test_sums(self):
        for size, wide, rows in cases():
            if size == 256 and len(rows) > 1:
                continue
            found = fieldsums.sums(size, wide, rows)
            step = max(size ** wide // 31, 1)
            for digits in list(itertools.islice(fieldsums.all_rows(size, wide), 0, None, step)) + sorted(found)[-9:]:
                told = sum_for(size, wide, rows, digits)
                if digits in found:
                    self.assertIs(type(told), tuple)
                    self.assertEqual(fieldsums.sum_of(size, wide, told, rows), digits)
                    self.assertTrue(all(type(number) is int and 0 <= number < size for number in told))
                else:
                    self.assertIsNone(told)
        self.assertEqual(sum_for(5, 2, PLAN[:2], (0, 1)), (4, 1))
        self.assertEqual(sum_for(size=5, wide=2, rows=(), digits=(0, 0)), ())
        self.assertIsNone(sum_for(5, 2, (), (0, 1)))
        self.assertEqual(len(sum_for(5, 0, ((), ()), ())), 2)
        told = sum_for(256, 3, ((7, 200, 3), (0, 0, 0), (14, 100, 5), (9, 9, 9)), (1, 2, 3))
        self.assertEqual(
            fieldsums.sum_of(256, 3, told, ((7, 200, 3), (0, 0, 0), (14, 100, 5), (9, 9, 9))), (1, 2, 3))

    def test_apart(self):
        for size, wide, rows in cases():
            found = fieldsums.sums(size, wide, rows) if size < 256 or len(rows) < 2 else None
            for place in range(wide):
                told = apart_from(size, wide, rows, place)
                if told is not None:
                    self.assertIs(type(told), tuple)
                    self.assertTrue(all(type(number) is int and 0 <= number < size for number in told))
                    self.assertEqual(len(told), wide)
                    self.assertNotEqual(told[place], 0)
                    self.assertTrue(all(fieldsums.dot(size, told, row) == 0 for row in rows))
                if found is not None:
                    # there is none exactly if the unit row is a sum of multiples
                    self.assertEqual(told is None, fieldsums.unit(wide, place) in found)
        self.assertEqual(apart_from(2, 2, ((1, 1),), 0), (1, 1))
        self.assertIsNone(apart_from(size=5, wide=2, rows=PLAN, place=1))
        self.assertNotEqual(apart_from(5, 3, (), 2)[2], 0)

    def test_refusals(self):
        good = {"size": 5, "wide": 2, "rows": PLAN}
        for function in (settled_rows, rank_in):
            check_refusals(self, function, good, {"size": NO_SIZE, "wide": NO_NUMBER, "rows": NO_ROWS})
        check_refusals(
            self, sum_for, dict(good, digits=(0, 4)),
            {"size": NO_SIZE, "wide": NO_NUMBER, "rows": NO_ROWS,
             "digits": NO_ROW + ((), (0,), (0, 0, 0), (0, 5), (True, 0))})
        check_refusals(
            self, apart_from, dict(good, place=1),
            {"size": NO_SIZE, "wide": NO_NUMBER, "rows": NO_ROWS, "place": NO_NUMBER + (2, BIG)})
        # rows of another width, and a width of which there are no rows
        for wide in (0, 1, 3, BIG):
            check_refusals(self, settled_rows, dict(good, wide=wide, rows=()), {"rows": (PLAN,)})
        check_refusals(self, apart_from, dict(good, wide=1, rows=(), place=0), {"place": (1,)})
        self.assertEqual(refused_word(apart_from, 5, 0, (), 0), "place")


if __name__ == "__main__":
    unittest.main()
