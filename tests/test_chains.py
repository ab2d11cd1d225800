import itertools
import unittest

from pushedback.chains import is_chain, keeps_counts, turned_back, turned_by
from pushedback.leastwords import least_words
from pushedback.lifting import lifted_in, unlifted_in
from pushedback.rings import turned, unturned
from pushedback.shifts import by_columns, by_rows, fronts_of, text_of_fronts
from pushedback.turnclasses import Ringed, Turning
from tests.refusals import NO_POSITIVE, NO_ROW, NO_TUPLE, check_refusals, refused_word
from tests.test_lifting import LADDER, NO_LADDER

BIG = 10 ** 59 + 7
STEPS = (
    ("turned",), ("unturned",), ("backward",), ("columns", 2), ("rows", 3), ("fronts",), ("unfronts",),
    ("lifted", LADDER), ("unlifted", ((0, 1, 1), (1, 3, 2))),
)
UNDONE = (
    ("unturned",), ("turned",), ("backward",), ("rows", 2), ("columns", 3), ("unfronts",), ("fronts",),
    ("unlifted", LADDER), ("lifted", ((0, 1, 1), (1, 3, 2))),
)
CHAINS = ((), STEPS, STEPS[::-1], (("columns", BIG), ("lifted", ())), (("turned",),) * 8) + tuple((step,) for step in STEPS)
NO_STEP = (
    None, True, 0, "turned", (), ("turned", 1), ("turned", ()), ["turned"], ("Turned",), ("back",), ("backward", 0),
    ("columns",), ("columns", 0), ("columns", True), ("columns", -2), ("columns", "2"), ("columns", 2, 2), ("rows",),
    ("rows", None), ("rows", (2,)), ("fronts", 2), ("unfronts", 2), ("lifted",), ("lifted", 2), ("lifted", LADDER[0]),
    ("lifted", [LADDER[0]]), ("lifted", LADDER, 2), ("unlifted", ((1, True, 2),)), ("unlifted",), (True,), ((),),
    (("turned",),), (["turned"],), (None, 2),
)
NO_CHAIN = NO_TUPLE + ("turned", ("turned",), [("turned",)]) + tuple((("fronts",), step) for step in NO_STEP)
TEXTS = [text for many in range(6) for text in itertools.product(range(3), repeat=many)]
TEXTS += [tuple((at * at + at) % 3 for at in range(40)), (2,) * 7]


def by_hand(chain, letters, text):
    for word, *told in chain:
        text = {
            "turned": lambda: turned(text), "unturned": lambda: unturned(text), "backward": lambda: text[::-1],
            "columns": lambda: by_columns(told[0], text), "rows": lambda: by_rows(told[0], text),
            "fronts": lambda: fronts_of(letters, text), "unfronts": lambda: text_of_fronts(letters, text),
            "lifted": lambda: lifted_in(letters, told[0], text),
            "unlifted": lambda: unlifted_in(letters, told[0], text),
        }[word]()
    return text


class Mine(Turning):
    pass


class MyRinged(Ringed):
    pass


class ChainsTest(unittest.TestCase):
    def test_is_chain(self):
        for chain in CHAINS:
            self.assertIs(is_chain(chain), True, chain)
        for thing in NO_CHAIN:
            self.assertIs(is_chain(thing), False, thing)
        for ladder in NO_LADDER:
            self.assertIs(is_chain((("lifted", ladder),)), False)
        for wide in NO_POSITIVE:
            self.assertIs(is_chain((("rows", wide),)), False)
        self.assertIs(is_chain(thing=STEPS), True)

    def test_turning(self):
        for chain in CHAINS:
            for text in TEXTS:
                told = turned_by(chain, 3, text)
                self.assertIs(type(told), tuple)
                self.assertEqual(told, by_hand(chain, 3, text))
                self.assertEqual(turned_back(chain, 3, told), text)
                self.assertIs(type(turned_back(chain, 3, text)), tuple)
                self.assertEqual(turned_by(chain, 3, turned_back(chain, 3, text)), text)
        self.assertEqual(turned_by(chain=(("backward",),), letters=3, text=(0, 1)), (1, 0))
        self.assertEqual(turned_back(chain=(("columns", 2),), letters=3, text=(0, 2, 1)), (0, 1, 2))
        self.assertEqual(turned_by((("fronts",),), BIG, (7, BIG - 1, 7)), (7, BIG - 1, 1))

    def test_one_to_one(self):
        for chain in CHAINS:
            texts = list(itertools.product(range(3), repeat=5))
            told = sorted(turned_by(chain, 3, text) for text in texts)
            self.assertEqual(told, texts)

    def test_keeps_counts(self):
        for step, told in zip(STEPS, (True,) * 5 + (False,) * 4):
            self.assertIs(keeps_counts((step,)), told)
            self.assertIs(keeps_counts((STEPS[0], step, STEPS[2])), told)
        self.assertIs(keeps_counts(chain=()), True)
        self.assertIs(keeps_counts(STEPS), False)
        for chain in CHAINS:
            if keeps_counts(chain):
                for text in TEXTS:
                    self.assertEqual(sorted(turned_by(chain, 3, text)), sorted(text))

    def test_refusals(self):
        for function in (turned_by, turned_back):
            check_refusals(
                self, function, {"chain": STEPS, "letters": 3, "text": (0, 2)},
                {"chain": NO_CHAIN, "letters": NO_POSITIVE, "text": NO_ROW + ((3,), (0, BIG))})
        check_refusals(self, keeps_counts, {"chain": STEPS}, {"chain": NO_CHAIN})


class TurningTest(unittest.TestCase):
    def test_as_the_functions(self):
        for chain in CHAINS:
            for one in (Turning(*chain), Mine(*chain)):
                self.assertEqual(one.chain_now, chain)
                self.assertIs(type(one.chain_now), tuple)
                self.assertEqual(len(one), len(chain))
                self.assertEqual(list(one), list(chain))
                for text in TEXTS[::7]:
                    self.assertEqual(one(3, text), turned_by(chain, 3, text))
                    self.assertEqual(one.back(3, text), turned_back(chain, 3, text))
        one = Turning(*STEPS)
        self.assertEqual(one(letters=3, text=(0, 2)), one(3, (0, 2)))
        self.assertEqual(one.back(letters=3, text=(0, 2)), one.back(3, (0, 2)))

    def test_in(self):
        one = Turning(("columns", 1), ("lifted", ((1, 1, 1),)), ("turned",))
        for thing in one.chain_now:
            self.assertIs(thing in one, True)
        for thing in NO_STEP + (("columns", True), ("lifted", ((True, 1, 1),)), ("lifted", [(1, 1, 1)]), ("rows", 1),
                                ("columns", 2), ["turned"], ("unturned",), one, one.chain_now):
            self.assertIs(thing in one, False, thing)
        self.assertIs(("turned",) in Turning(), False)

    def test_undoing(self):
        for chain in CHAINS:
            undone = tuple(UNDONE[STEPS.index(step)] for step in chain[::-1] if step in STEPS)
            for one in (Turning(*chain), Mine(*chain)):
                back = ~one
                self.assertIs(type(back), Turning)
                if all(step in STEPS for step in chain):
                    self.assertEqual(back.chain_now, undone)
                self.assertEqual((~back).chain_now, chain)
                self.assertEqual(one.chain_now, chain)
                for text in TEXTS[::9]:
                    self.assertEqual(back(3, one(3, text)), text)
                    self.assertEqual(back(3, text), one.back(3, text))
            made = Turning.undoing(*chain)
            self.assertIs(type(made), Turning)
            self.assertEqual(made, ~Turning(*chain))
        self.assertEqual((~Turning(("columns", BIG), ("lifted", ()))).chain_now, (("unlifted", ()), ("rows", BIG)))
        self.assertIs(type(~Ringed()), Turning)
        self.assertEqual((~Ringed()).chain_now, (("unturned",),))

    def test_sums(self):
        for left in (Turning(*STEPS), Mine(("fronts",)), Ringed(), MyRinged(), Turning()):
            for right in (Turning(("rows", 4)), Mine(), Ringed()):
                before = left.chain_now, right.chain_now
                whole = left + right
                self.assertIs(type(whole), Turning)
                self.assertEqual(whole.chain_now, before[0] + before[1])
                self.assertEqual((left.chain_now, right.chain_now), before)
            for other in NO_CHAIN + CHAINS:
                self.assertEqual(refused_word(lambda added: left + added, other), "other")

    def test_equality(self):
        ones = (Turning(("turned",)), Mine(("turned",)), Ringed(), MyRinged())
        for one in ones:
            for other in ones:
                self.assertIs(one == other, True)
                self.assertIs(one != other, False)
            for other in (Turning(), Turning(("unturned",)), Turning(("turned",), ("turned",)), (("turned",),), None,
                          "turned", [("turned",)], True, 0):
                self.assertIs(one == other, False)
        self.assertIs(Turning(("columns", 2), ("fronts",)) == Turning(("fronts",), ("columns", 2)), False)

    def test_ringed(self):
        for one in (Ringed(), MyRinged()):
            self.assertEqual(one.chain_now, (("turned",),))
            self.assertEqual((len(one), list(one)), (1, [("turned",)]))
            self.assertIs(("turned",) in one, True)
            for text in TEXTS:
                told = one.rings_for(text)
                self.assertIs(type(told), tuple)
                self.assertEqual(told, tuple(sorted(least_words(text))))
                self.assertEqual(one(3, text), turned(text))
                self.assertEqual(one.back(3, text), unturned(text))
            self.assertEqual(one.rings_for(text=(1, 0, 1)), ((0, 1), (1,)))
            check_refusals(self, one.rings_for, {"text": (1, 0)}, {"text": NO_ROW})
        self.assertTrue(issubclass(Ringed, Turning))

    def test_refusals(self):
        for step in NO_STEP:
            for maker in (Turning, Mine, Turning.undoing):
                self.assertEqual(refused_word(maker, step), "chain")
                self.assertEqual(refused_word(maker, ("turned",), step, ("fronts",)), "chain")
        for one in (Turning(*STEPS), Ringed()):
            for call in (one.back, lambda letters, text: one(letters, text)):
                check_refusals(
                    self, call, {"letters": 3, "text": (0, 2)},
                    {"letters": NO_POSITIVE, "text": NO_ROW + ((3,), (0, BIG))})


if __name__ == "__main__":
    unittest.main()
