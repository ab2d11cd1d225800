import unittest

from pushedback.evenstrips import even_strip
from pushedback.leans import chance_of, lean_of
from pushedback.strips import pop_strip, push_strip
from pushedback.tableclasses import Evened, Table
from pushedback.tablecoder import pop_by, push_by
from pushedback.tables import letters_of, strip_of
from tests.refusals import NO_NUMBER, check_refusals, refused_word

BIG = 10 ** 60 + 7
TABLES = ((2, 1, 1), (1,), (0, 3), (4, 0, 2), (1, 1), (3, 2, 0), (0, 0, 5, 0, 1), (10, 10, 10), (9, 1, 0, 0), (8,) * 8)
NO_COUNTS = ((), (0,), (0, 0), (1, -1), (True, 1), (1, None), ("1",), ((1, 2),), ([1],), (1, 1, False))
NO_LETTER = NO_NUMBER + (1, 3, 4, BIG)


class MyTable(Table):
    pass


class MyEvened(Evened):
    pass


class TableTest(unittest.TestCase):
    def test_properties(self):
        for counts in TABLES:
            for maker, strip in (
                (Table, strip_of(counts)), (MyTable, strip_of(counts)), (Evened, even_strip(counts)),
                (MyEvened, even_strip(counts)),
            ):
                one = maker(*counts)
                self.assertEqual(one.counts_now, counts)
                self.assertEqual(one.sum_now, sum(counts))
                self.assertEqual(one.letters_now, letters_of(counts))
                self.assertEqual(one.strip_now, strip)
                self.assertEqual([type(one.counts_now), type(one.letters_now), type(one.strip_now)], [tuple] * 3)
                self.assertEqual((len(one), list(one)), (len(letters_of(counts)), sorted(set(strip))))

    def test_pushing_and_leans(self):
        for counts in TABLES:
            for one in (Table(*counts), MyTable(*counts), Evened(*counts), MyEvened(*counts)):
                strip = one.strip_now
                for letter in letters_of(counts):
                    self.assertEqual(one.chance(letter), chance_of(counts, letter))
                    self.assertEqual(one.chance(letter=letter), chance_of(counts, letter))
                    self.assertEqual(one[letter], counts[letter])
                    self.assertEqual(one.lean(letter), lean_of(strip, letter))
                    for stack in list(range(12)) + [BIG]:
                        self.assertEqual(one.pushed(stack, letter), push_strip(stack, strip, letter))
                        self.assertEqual(one.popped(one.pushed(stack=stack, letter=letter)), (letter, stack))
                for stack in list(range(40)) + [BIG]:
                    self.assertEqual(one.popped(stack), pop_strip(stack, strip))

    def test_large_counts(self):
        counts = (BIG, 0, 10 ** 900, 3)
        one = Table(*counts)
        for letter in (0, 2, 3):
            for stack in (0, 7, BIG):
                pushed = one.pushed(stack, letter)
                self.assertEqual(pushed, push_by(stack, counts, letter))
                self.assertEqual(one.popped(pushed), (letter, stack))
            self.assertEqual(one[letter], counts[letter])
            self.assertEqual(one.chance(letter), chance_of(counts, letter))
        self.assertEqual(one.popped(BIG), pop_by(BIG, counts))
        self.assertEqual(one.lean(3)[2], (BIG + 10 ** 900, 1))
        self.assertEqual((one + Table(1, 1)).counts_now, (BIG + 1, 1, 10 ** 900, 3))
        self.assertIs(one == Table(*counts), True)
        self.assertEqual((Evened(999, 0, 999) + one).counts_now, (BIG + 999, 0, 10 ** 900 + 999, 3))

    def test_letters(self):
        for one in (Table(4, 0, 2), Evened(4, 0, 2)):
            for thing, told in ((0, True), (2, True), (1, False), (3, False), (-1, False), (BIG, False), (True, False),
                                (False, False), (None, False), ("0", False), ((0,), False), ([], False), (one, False)):
                self.assertIs(thing in one, told, thing)
                self.assertIs(thing not in one, not told, thing)

    def test_equality(self):
        self.assertIs(Table(2, 1) == Table(2, 1), True)
        self.assertIs(Table(2, 1) == MyTable(2, 1), True)
        self.assertIs(MyTable(2, 1) == Table(2, 1), True)
        self.assertIs(Evened(2, 1) == Evened(2, 1), True)
        self.assertIs(MyEvened(2, 1) == Evened(2, 1), True)
        self.assertIs(Evened(2, 1) == MyEvened(2, 1), True)
        for one, other in ((Table(1), Evened(1)), (Table(2, 1), Evened(2, 1)), (MyTable(2, 1), MyEvened(2, 1)),
                           (Table(2, 1), Table(2, 1, 0)), (Table(2, 1), Table(1, 2)), (Evened(2, 1), Evened(4, 2))):
            self.assertIs(one == other, False)
            self.assertIs(other == one, False)
            self.assertIs(one != other, True)
        for other in ((2, 1), [2, 1], None, True, 3, "", {}):
            self.assertIs(Table(2, 1) == other, False)
            self.assertIs(Evened(2, 1) == other, False)

    def test_sums(self):
        tables = ((2, 1, 1), (0, 4), (1,), (0, 0, 0, 2))
        for left in tables:
            for right in tables:
                size = max(len(left), len(right))
                told = tuple((left + (0,) * size)[at] + (right + (0,) * size)[at] for at in range(size))
                for maker, kind in ((Table, Table), (MyTable, Table), (Evened, Evened), (MyEvened, Evened)):
                    one = maker(*left)
                    for other in (Table(*right), Evened(*right), MyTable(*right), MyEvened(*right)):
                        whole = one + other
                        self.assertIs(type(whole), kind)
                        self.assertEqual(whole.counts_now, told)
                        self.assertEqual((one.counts_now, other.counts_now), (left, right))
        for other in (None, True, 0, (2, 1), [2, 1], "", (), ("table", (2, 1))):
            for one in (Table(2, 1), Evened(2, 1)):
                self.assertEqual(refused_word(lambda added: one + added, other), "other")

    def test_refusals(self):
        for maker in (Table, Evened, MyEvened):
            for counts in NO_COUNTS:
                self.assertEqual(refused_word(maker, *counts), "counts", counts)
            self.assertEqual(refused_word(maker, (2, 1)), "counts")
        for one in (Table(4, 0, 2), Evened(4, 0, 2)):
            check_refusals(self, one.pushed, {"stack": 5, "letter": 2}, {"stack": NO_NUMBER, "letter": NO_LETTER})
            check_refusals(self, one.popped, {"stack": 5}, {"stack": NO_NUMBER})
            check_refusals(self, one.lean, {"letter": 2}, {"letter": NO_LETTER})
            check_refusals(self, one.chance, {"letter": 2}, {"letter": NO_LETTER})
            for letter in NO_LETTER + (slice(0, 1), -2):
                self.assertEqual(refused_word(lambda at: one[at], letter), "letter")

    def test_derived(self):
        self.assertTrue(issubclass(Evened, Table))
        self.assertIs(type(Table(1) == Table(1)), bool)


if __name__ == "__main__":
    unittest.main()
