import itertools
import unittest
from fractions import Fraction

from pushedback.claimchecker import lets_claim
from pushedback.claimpapers import claim_paper
from pushedback.claims import claim_fits, is_growths, overdrawn, pairs_below, sum_of_growths
from pushedback.errors import InvalidPaper
from pushedback.evenstrips import even_strip, strip_by
from pushedback.strips import push_strip
from tests.refusals import NO_NUMBER, NO_QUOTIENT, NO_TABLE, check_refusals
from tests.trees import pair

BIG = 10 ** 60 + 7
TWO = ((2, 1), (2, 1))
# sums of just 1, below 1 and above 1, whole growths and others, growths below 1
GROWTHS = (
    ((1, 1),), ((2, 1),), ((7, 5),), ((64, 1),), TWO, ((3, 1), (3, 2)), ((3, 2), (3, 1)), ((4, 1), (2, 1), (4, 1)),
    ((3, 1), (3, 1), (3, 1)), ((6, 1), (3, 1), (2, 1)), ((8, 1),) * 8, ((64, 1),) * 8, ((9, 2), (9, 2), (9, 5)),
    ((5, 1), (5, 2)), ((4, 1), (4, 1)), ((10, 1), (5, 1), (2, 1)), ((7, 1), (7, 2), (7, 2)), ((64, 63), (64, 1)),
    ((1, 2),), ((3, 2), (3, 2)), ((1, 1), (1, 1)), ((2, 1), (2, 1), (2, 1)), ((64, 1), (1, 1)), ((8, 7), (8, 3)),
    ((1, 3), (2, 5)), ((64, 33), (64, 33)), ((9, 7), (7, 3)), ((64, 999),), ((1, 10 ** 12),),
    ((32, 17), (64, 31)), ((1, 1), (64, 1), (32, 1), (16, 1), (8, 1), (4, 1), (2, 1), (1, 1)),
)
NO_GROWTHS = NO_QUOTIENT[:9] + (
    (), ((0, 1),), ((-1, 2),), ((2, 4),), ((True, 1),), ((1, True),), ((2, 1), None), ((2, 1), (2,)), ([2, 1],),
    ((2, 1),) * 9, ((65, 1),), ((64, 1), (3, 1)), ((5, 2), (13, 2)), ((BIG, 1),), (2, 1), ((1, 0),), ((1, -1),),
    [(2, 1)], ((2, 1), (2, 1, 1)),
)


def growth(growths, letter):
    return Fraction(*growths[letter])


def sum_by_hand(growths):
    return sum(1 / Fraction(*one) for one in growths)


def pairs_by_hand(growths, extra, bound):
    """One pair after the other."""
    pairs = 0
    for one in growths:
        stack = 0
        while Fraction(*one) * stack + extra < bound + 1:
            pairs += 1
            stack += 1
    return pairs


def small_growths():
    """Growths small enough to count their pairs one by one."""
    return [growths for growths in GROWTHS if min(Fraction(*one) for one in growths) > Fraction(1, 9)]


class ClaimsTest(unittest.TestCase):
    def test_is_growths(self):
        for growths in GROWTHS:
            self.assertIs(is_growths(growths), True, growths)
        for thing in NO_GROWTHS:
            self.assertIs(is_growths(thing), False, thing)
        self.assertIs(is_growths(((9, 1), (7, 10 ** 40))), True)
        self.assertIs(is_growths(thing=((32, 1), (64, 3))), True)
        self.assertIs(is_growths(((5, 1), (13, 1))), False)
        self.assertIs(is_growths(((1, 1),) * 8), True)

    def test_sums(self):
        for growths in GROWTHS:
            self.assertEqual(sum_of_growths(growths), pair(sum_by_hand(growths)))

    def test_pairs_below(self):
        for growths in small_growths():
            for extra in (0, 1, 2, 5):
                for bound in range(12):
                    told = pairs_by_hand(growths, extra, bound)
                    self.assertEqual(pairs_below(growths, extra, bound), told, (growths, extra, bound))
        self.assertEqual([pairs_below(TWO, 5, bound) for bound in (0, 3, 4, 5, 6, 7, 8)], [0, 0, 0, 2, 2, 4, 4])
        self.assertEqual(pairs_below(TWO, 999, BIG), (BIG + 1 - 999 + 1) // 2 * 2)

    def test_claim_fits(self):
        for growths in GROWTHS:
            for extra in range(10):
                told = sum_by_hand(growths) <= 1 and extra >= len(growths) - 1
                self.assertIs(claim_fits(growths, extra), told)
        self.assertIs(claim_fits(((3, 1), (3, 2)), 1), True)
        self.assertIs(claim_fits(((3, 1), (3, 2)), 0), False)
        self.assertIs(claim_fits(((1, 1),), 0), True)
        self.assertIs(claim_fits(((64, 63), (32, 1)), 999), False)
        self.assertIs(claim_fits(((8, 1),) * 8, 7), True)
        self.assertIs(claim_fits(((8, 1),) * 8, 6), False)

    def test_what_fits_has_room_at_every_bound(self):
        # what cannot be kept needs at some bound more numbers than there are, and what can be kept at none
        for growths in small_growths():
            for extra in range(4):
                lacking = [bound for bound in range(270) if pairs_below(growths, extra, bound) > bound + 1]
                self.assertEqual(lacking == [], claim_fits(growths, extra), (growths, extra))

    def test_overdrawn(self):
        for growths in GROWTHS:
            for extra in (0, 1, 2, 3, 6, 7, 8, 999):
                bound = overdrawn(growths, extra)
                self.assertEqual(bound is None, claim_fits(growths, extra), (growths, extra))
                if bound is not None:
                    self.assertIs(type(bound), int)
                    self.assertGreaterEqual(bound, 0)
                    self.assertGreater(pairs_below(growths, extra, bound), bound + 1, (growths, extra))
        for growths in small_growths():
            for extra in range(4):
                bound = overdrawn(growths, extra)
                if bound is not None:
                    self.assertGreater(pairs_by_hand(growths, extra, bound), bound + 1)

    def test_refusals(self):
        for function in (sum_of_growths, strip_by):
            check_refusals(self, function, {"growths": TWO}, {"growths": NO_GROWTHS})
        for function in (claim_fits, overdrawn, claim_paper):
            check_refusals(
                self, function, {"growths": TWO, "extra": 1}, {"growths": NO_GROWTHS, "extra": NO_NUMBER})
        check_refusals(
            self, pairs_below, {"growths": TWO, "extra": 1, "bound": 7},
            {"growths": NO_GROWTHS, "extra": NO_NUMBER, "bound": NO_NUMBER})
        check_refusals(
            self, lets_claim, {"growths": TWO, "extra": 1, "thing": ("strip", (0, 1))},
            {"growths": NO_GROWTHS, "extra": NO_NUMBER})


class EvenstripsTest(unittest.TestCase):
    def test_strip_by(self):
        for growths in GROWTHS:
            multiple = 1
            while any(multiple % top for top, bottom in growths):
                multiple += 1
            if multiple * sum_by_hand(growths) > 900:
                continue
            marks = []
            for letter in range(len(growths)):
                times = multiple / growth(growths, letter)
                self.assertEqual(times.denominator, 1)
                marks.extend((time * growth(growths, letter), letter) for time in range(int(times)))
            self.assertEqual(strip_by(growths), tuple(letter for _, letter in sorted(marks)))
        self.assertEqual(strip_by(((1, 1),)), (0,))
        self.assertEqual(strip_by(((1, 2),)), (0, 0))

    def test_even_strip(self):
        for table in ((1,), (9,), (2, 1, 1), (4, 0, 2), (0, 3), (1, 1), (3, 2), (2, 3), (0, 0, 5, 0, 1), (10, 10, 10),
                      (1, 2, 3, 4, 5, 6, 7, 8), (8,) * 8, (63, 1), (1, 63), (999, 999)):
            letters = [letter for letter, count in enumerate(table) if count]
            growths = tuple(pair(Fraction(sum(table), table[letter])) for letter in letters)
            self.assertEqual(even_strip(table), tuple(letters[place] for place in strip_by(growths)))
            self.assertIs(type(even_strip(table)), tuple)
        self.assertEqual(even_strip((999, 0, 999)), (0, 2))
        self.assertEqual(even_strip((0, 7)), (1,))
        check_refusals(self, even_strip, {"table": (2, 1, 1)}, {"table": NO_TABLE})

    def test_pushes_grow_as_claimed(self):
        for growths in GROWTHS:
            if sum_by_hand(growths) > 50:
                continue
            strip = strip_by(growths)
            total = sum_by_hand(growths)
            for letter in range(len(growths)):
                for stack in list(range(70)) + [BIG]:
                    line = total * growth(growths, letter) * stack
                    pushed = push_strip(stack, strip, letter)
                    self.assertLessEqual(line, pushed)
                    self.assertLessEqual(pushed, line + len(growths) - 1)


class ClaimPapersTest(unittest.TestCase):
    def entry(self, growths, extra, thing):
        with self.assertRaises(InvalidPaper) as caught:
            lets_claim(growths, extra, thing)
        return caught.exception.word, caught.exception.at

    def test_there_is_always_a_paper(self):
        for growths in GROWTHS:
            for extra in (0, 1, 2, 3, 6, 7, 8, 999):
                paper = claim_paper(growths, extra)
                self.assertIs(type(paper), tuple)
                word = "strip" if claim_fits(growths, extra) else "over"
                self.assertEqual(paper[0], word)
                self.assertEqual(lets_claim(growths, extra, paper), word)

    def test_strips_are_accepted_if_they_keep_the_claim(self):
        for growths in (TWO, ((3, 1), (3, 2)), ((2, 1),), ((4, 1), (2, 1)), ((1, 1), (1, 1)), ((3, 1), (2, 1), (6, 1))):
            for size, extra in itertools.product(range(1, 6), range(4)):
                for strip in itertools.product(range(len(growths)), repeat=size):
                    keeps = set(strip) == set(range(len(growths))) and all(
                        push_strip(stack, strip, letter) <= growth(growths, letter) * stack + extra
                        for letter in range(len(growths)) for stack in range(40))
                    try:
                        self.assertEqual(lets_claim(growths, extra, ("strip", strip)), "strip")
                        accepted = True
                    except InvalidPaper:
                        accepted = False
                    self.assertIs(accepted, keeps, (growths, extra, strip))

    def test_no_claim_has_both_words(self):
        for growths in GROWTHS:
            for extra in (0, 1, 7):
                if claim_fits(growths, extra):
                    for bound in list(range(20)) + [BIG]:
                        self.assertEqual(self.entry(growths, extra, ("over", bound)), ("over", -1))

    def test_shape(self):
        for thing in (None, True, 0, "strip", "over", (), ("strip",), ("over",), ("strip", (0, 1), 1), ["strip", (0, 1)],
                      ("Strip", (0, 1)), (True, (0, 1)), (("strip", (0, 1)),), ((0, 1), "strip"), (["over"], 3),
                      ("over", 3, 3), ("stripover", 3), ("", 3), [], "or"):
            self.assertEqual(self.entry(TWO, 1, thing), ("shape", -1), thing)
            self.assertEqual(self.entry(TWO, 0, thing), ("shape", -1), thing)

    def test_strip_entries(self):
        for strip in ((), None, [0, 1], 3, "01", (0, True), (0, -1), (0, None), ((0, 1),)):
            self.assertEqual(self.entry(TWO, 1, ("strip", strip)), ("strip", -1), strip)
        self.assertEqual(self.entry(TWO, 1, ("strip", (0, 1, 2, 3))), ("letter", 2))
        self.assertEqual(self.entry(TWO, 1, ("strip", (BIG, 0))), ("letter", 0))
        self.assertEqual(self.entry(TWO, 1, ("strip", (2, 1))), ("letter", 0))
        self.assertEqual(self.entry(TWO, 1, ("strip", (1, 1, 1))), ("lacks", 0))
        self.assertEqual(self.entry(TWO, 1, ("strip", (0, 0, 0))), ("lacks", 1))
        # all of one letter comes before the next one
        self.assertEqual(self.entry(((9, 1), (2, 1), (9, 1)), 1, ("strip", (0, 1, 0))), ("growth", 1))
        self.assertEqual(self.entry(((2, 1), (3, 1), (9, 1)), 2, ("strip", (1, 1, 0))), ("growth", 0))
        self.assertEqual(self.entry(((4, 1), (4, 1), (9, 1)), 0, ("strip", (1, 0))), ("place", (0, 0)))
        self.assertEqual(self.entry(((4, 1), (4, 1), (9, 1)), 1, ("strip", (1, 0))), ("lacks", 2))
        self.assertEqual(self.entry(TWO, 1, ("strip", (0, 1, 1))), ("growth", 0))
        self.assertEqual(self.entry(TWO, 1, ("strip", (1, 0, 0))), ("growth", 1))
        self.assertEqual(self.entry(TWO, 0, ("strip", (0, 1))), ("place", (1, 0)))
        self.assertEqual(self.entry(TWO, 1, ("strip", (0, 1, 1, 0, 0, 1, 1, 0, 1, 1, 0, 0))), ("place", (0, 4)))
        self.assertEqual(self.entry(((3, 1), (3, 2)), 1, ("strip", (1, 1, 0))), ("place", (0, 0)))
        self.assertEqual(self.entry(((3, 2), (3, 1)), 1, ("strip", (0, 1, 1, 0, 0, 0))), ("place", (0, 1)))
        # exactly at the bound is accepted
        self.assertEqual(lets_claim(TWO, 1, ("strip", (1, 0))), "strip")
        self.assertEqual(lets_claim(((2, 1), (2, 1)), 1, ("strip", (0, 1, 1, 0))), "strip")
        self.assertEqual(lets_claim(((3, 1), (3, 2)), 1, ("strip", (0, 1, 1))), "strip")

    def test_over_entries(self):
        for bound in (None, True, -1, "3", (), (3,), [3]):
            self.assertEqual(self.entry(TWO, 0, ("over", bound)), ("bound", -1), bound)
            self.assertEqual(self.entry(TWO, 1, ("over", bound)), ("bound", -1), bound)
        self.assertEqual(lets_claim(TWO, 0, ("over", 0)), "over")
        self.assertEqual(self.entry(TWO, 0, ("over", 1)), ("over", -1))
        self.assertEqual(lets_claim(TWO, 0, ("over", 2)), "over")
        self.assertEqual(lets_claim(((2, 1),) * 3, BIG, ("over", 10 * BIG)), "over")
        self.assertEqual(self.entry(((2, 1),) * 3, BIG, ("over", BIG)), ("over", -1))
        for growths in small_growths():
            for extra, bound in itertools.product(range(3), range(9)):
                if pairs_by_hand(growths, extra, bound) > bound + 1:
                    self.assertEqual(lets_claim(growths, extra, ("over", bound)), "over")
                else:
                    self.assertEqual(self.entry(growths, extra, ("over", bound)), ("over", -1))


if __name__ == "__main__":
    unittest.main()
