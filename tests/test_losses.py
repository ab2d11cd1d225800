import itertools
import unittest

from pushedback.errors import InvalidPaper
from pushedback.losschecker import lets_loss
from pushedback.losspapers import loss_paper
from pushedback.mending import told_blocks
from tests import fieldsums
from tests.fieldsums import NO_PLAN, NO_SIZE, PLAN, PLANS, kept_sets
from tests.refusals import NO_NUMBER, NO_ROW, check_refusals
from tests.test_mending import NO_KEPT

BIG = 10 ** 59 + 7


def is_true(size, plan, kept, block, paper):
    """Whether a paper of the right form is true, by the definition."""
    word, row = paper
    rows = [plan[place] for place in kept]
    if word == "told":
        return fieldsums.sum_of(size, len(plan[0]), row, rows) == fieldsums.unit(len(plan[0]), block)
    return row[block] != 0 and all(fieldsums.dot(size, row, own) == 0 for own in rows)


class LossesTest(unittest.TestCase):
    def entry(self, size, plan, kept, block, thing):
        with self.assertRaises(InvalidPaper) as caught:
            lets_loss(size, plan, kept, block, thing)
        return caught.exception.word, caught.exception.at

    def test_papers(self):
        for size, plan in PLANS:
            for kept in kept_sets(len(plan)):
                for block in range(len(plan[0])):
                    paper = loss_paper(size, plan, kept, block)
                    self.assertIs(type(paper), tuple)
                    self.assertIs(type(paper[1]), tuple)
                    self.assertEqual(len(paper[1]), len(kept) if paper[0] == "told" else len(plan[0]))
                    self.assertTrue(is_true(size, plan, kept, block, paper))
                    self.assertEqual(paper[0] == "told", block in told_blocks(size, plan, kept))
                    self.assertIn(paper[0], ("told", "alike"))
                    self.assertEqual(lets_loss(size, plan, kept, block, paper), paper[0])
        paper = loss_paper(size=5, plan=PLAN, kept=(1,), block=0)
        self.assertEqual(lets_loss(size=5, plan=PLAN, kept=(1,), block=0, thing=paper), "alike")
        self.assertEqual(lets_loss(5, PLAN, (1,), 0, ("alike", (1, 4))), "alike")

    def test_just_what_is_true_is_accepted(self):
        for size, plan in PLANS:
            if size > 5 or len(plan[0]) > 3:
                continue
            many = len(plan[0])
            for kept, block in itertools.product(kept_sets(len(plan)), range(many)):
                for row in itertools.islice(fieldsums.all_rows(size, len(kept)), 130):
                    if is_true(size, plan, kept, block, ("told", row)):
                        self.assertEqual(lets_loss(size, plan, kept, block, ("told", row)), "told")
                    else:
                        total = fieldsums.sum_of(size, many, row, [plan[place] for place in kept])
                        at = [total[i] == (1 if i == block else 0) for i in range(many)].index(False)
                        self.assertEqual(self.entry(size, plan, kept, block, ("told", row)), ("sum", at))
                for row in fieldsums.all_rows(size, many):
                    if is_true(size, plan, kept, block, ("alike", row)):
                        self.assertEqual(lets_loss(size, plan, kept, block, ("alike", row)), "alike")
                        continue
                    entry = self.entry(size, plan, kept, block, ("alike", row))
                    if row[block] == 0:
                        self.assertEqual(entry, ("nought", -1))
                    else:
                        bad = [place for place in kept if fieldsums.dot(size, row, plan[place])]
                        self.assertEqual(entry, ("product", bad[0]))

    def test_shape_and_word(self):
        for thing in (None, True, 0, "told", (), [], ("told",), ("told", (1,), 0), ["told", (1,)], ((1,), "told", ())):
            self.assertEqual(self.entry(5, PLAN, (0,), 0, thing), ("shape", -1), thing)
        for word in (None, True, 0, "", "Told", "tol", "alikes", (), ("told",), ["told"], (1,)):
            self.assertEqual(self.entry(5, PLAN, (0,), 0, (word, (1,))), ("word", -1), word)

    def test_told(self):
        self.assertEqual(lets_loss(5, PLAN, (0, 2), 1, ("told", (2, 3))), "told")
        for row in NO_ROW + ((), (1,), (1, 2, 3), (1, 5), (True, 3), (2, BIG), [2, 3]):
            self.assertEqual(self.entry(5, PLAN, (0, 2), 1, ("told", row)), ("multipliers", -1), row)
        self.assertEqual(self.entry(5, PLAN, (0, 2), 1, ("told", (0, 0))), ("sum", 1))
        self.assertEqual(self.entry(5, PLAN, (0, 2), 1, ("told", (3, 3))), ("sum", 0))
        # without kept rows it is nought everywhere
        self.assertEqual(self.entry(5, PLAN, (), 1, ("told", ())), ("sum", 1))
        self.assertEqual(self.entry(5, PLAN, (), 0, ("told", ())), ("sum", 0))
        self.assertEqual(self.entry(5, PLAN, (), 0, ("told", (1,))), ("multipliers", -1))

    def test_alike(self):
        for row in NO_ROW + ((), (1,), (1, 4, 0), (1, 5), (True, 4), (1, BIG), [1, 4]):
            self.assertEqual(self.entry(5, PLAN, (1,), 0, ("alike", row)), ("digits", -1), row)
        self.assertEqual(self.entry(5, PLAN, (1,), 0, ("alike", (0, 4))), ("nought", -1))
        self.assertEqual(self.entry(5, PLAN, (1,), 0, ("alike", (1, 1))), ("product", 1))
        # the place in the plan, not in kept
        self.assertEqual(self.entry(5, PLAN, (1, 2), 0, ("alike", (1, 4))), ("product", 2))
        self.assertEqual(self.entry(5, PLAN, (0, 2), 0, ("alike", (1, 4))), ("product", 0))
        self.assertEqual(lets_loss(5, PLAN, (), 1, ("alike", (0, 3))), "alike")

    def test_refusals(self):
        no_block = NO_NUMBER + (2, BIG)
        good = {"size": 5, "plan": PLAN, "kept": (1,), "block": 1}
        wrong = {"size": NO_SIZE, "plan": NO_PLAN, "kept": NO_KEPT, "block": no_block}
        check_refusals(self, loss_paper, good, wrong)
        check_refusals(self, lets_loss, dict(good, thing=("alike", (1, 4))), wrong)


if __name__ == "__main__":
    unittest.main()
