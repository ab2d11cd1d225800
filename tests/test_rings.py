import itertools
import unittest

from pushedback.leastwords import is_least, least_words
from pushedback.rings import rings_of, text_of_rings, turned, unturned
from tests.refusals import NO_ROW, NO_TUPLE, check_refusals

BIG = 10 ** 59 + 7
# texts of few letters, all of them, and some long ones
SMALL = [text for many in range(9) for text in itertools.product(range(2), repeat=many)]
SMALL += [text for many in range(6) for text in itertools.product(range(3), repeat=many)]
LONG = [
    (0,) * 40, (7,) * 40, tuple(range(8)) * 5, tuple(range(8))[::-1] * 5, (BIG, 0, BIG, BIG + 1, 0), (BIG,) * 3,
    tuple((at * at + 3 * at) % 8 for at in range(40)), tuple((at * at * at) % 7 for at in range(40)),
    (0, 1) * 20, (1, 0) * 20, (0, 0, 1) * 13, (1, 0, 1) * 13, (0,) * 39 + (1,), (1,) + (0,) * 39, (3, 1, 4, 1, 5, 2, 6),
]


def rotations(word):
    return [word[at:] + word[:at] for at in range(len(word))]


def is_least_by_hand(word):
    return bool(word) and all(word < other for other in rotations(word)[1:])


def splits(text):
    """All ways in which the text is least words joined, none less than the next one."""
    if not text:
        return [()]
    ways = []
    for at in range(1, len(text) + 1):
        if is_least_by_hand(text[:at]):
            ways += [(text[:at],) + way for way in splits(text[at:]) if not way or text[:at] >= way[0]]
    return ways


def rings_by_hand(text):
    """The rings of the text's circles, by the definition."""
    places = [at for letter in sorted(set(text)) for at in range(len(text)) if text[at] == letter]
    rings, seen = [], set()
    for begin in range(len(text)):
        if begin not in seen:
            going, at = [], begin
            while not going or at != begin:
                seen.add(at)
                at = places[at]
                going.append(text[at])
            least = [word for word in rotations(tuple(going)) if is_least_by_hand(word)]
            assert len(least) == 1
            rings += least
    return tuple(sorted(rings))


def texts_with(text):
    return sorted(set(itertools.permutations(text)))


class LeastwordsTest(unittest.TestCase):
    def test_least(self):
        for text in SMALL + LONG:
            self.assertIs(is_least(text), is_least_by_hand(text), text)
        for text, told in (((), False), ((0,), True), ((BIG,), True), ((0, 0), False), ((0, 1, 0, 1), False),
                           ((0, 0, 1), True), ((0, 1, 0), False), ((1, 0), False), ((0, BIG), True)):
            self.assertIs(is_least(text), told)
        self.assertIs(is_least(text=(0, 1)), True)

    def test_least_words(self):
        for text in SMALL:
            told = least_words(text)
            self.assertIs(type(told), tuple)
            self.assertEqual([told], splits(text))
        for text in LONG:
            told = least_words(text)
            self.assertEqual(sum(told, ()), text)
            self.assertTrue(all(is_least_by_hand(word) for word in told))
            self.assertEqual(sorted(told, reverse=True), list(told))
        self.assertEqual(least_words((1, 0, 0, 1, 0)), ((1,), (0, 0, 1), (0,)))
        self.assertEqual(least_words(text=()), ())
        self.assertEqual(least_words((5, 5, 5)), ((5,), (5,), (5,)))

    def test_refusals(self):
        for function in (is_least, least_words, rings_of, turned, unturned):
            check_refusals(self, function, {"text": (1, 0)}, {"text": NO_ROW})


class RingsTest(unittest.TestCase):
    def test_rings(self):
        for text in SMALL + LONG:
            told = rings_of(text)
            self.assertIs(type(told), tuple)
            self.assertEqual(told, rings_by_hand(text), text)
            self.assertEqual(text_of_rings(told), text)
            self.assertEqual(sorted(sum(told, ())), sorted(text))
        self.assertEqual(rings_of((0, 1, 0, 0, 1)), ((0,), (0, 0, 1), (1,)))
        self.assertEqual(rings_of(text=()), ())
        self.assertEqual(rings_of((4, 4)), ((4,), (4,)))

    def test_texts_of_rings(self):
        words = [text for text in SMALL if is_least_by_hand(text)]
        for many in range(4):
            for rings in itertools.combinations_with_replacement(sorted(set(words))[:18], many):
                text = text_of_rings(rings)
                self.assertIs(type(text), tuple)
                self.assertEqual(rings_by_hand(text), rings, rings)
        self.assertEqual(text_of_rings(((0, 1), (0, 1))), (1, 1, 0, 0))
        self.assertEqual(text_of_rings(rings=()), ())
        # equal rings, many times, of several kinds
        rings = ((0, 0, 1),) * 5 + ((0, 1),) * 6 + ((1,),) * 9
        self.assertEqual(rings_of(text_of_rings(rings)), rings)
        for text in ((0, 0, 1, 1, 1), (0, 1, 2, 3), (0, 0, 0, 1, 2)):
            # all texts with these letters, each by rings of its own
            texts = texts_with(text)
            self.assertEqual(len({rings_of(one) for one in texts}), len(texts))

    def test_turning(self):
        for text in SMALL + LONG:
            there = turned(text)
            self.assertIs(type(there), tuple)
            self.assertEqual(rings_by_hand(there), tuple(sorted(least_words(text))), text)
            self.assertEqual(unturned(there), text)
            back = unturned(text)
            self.assertIs(type(back), tuple)
            self.assertEqual(back, sum(rings_by_hand(text)[::-1], ()))
            self.assertEqual(turned(back), text)
        self.assertEqual(turned((1, 0, 0, 1, 0)), (0, 1, 0, 0, 1))
        # the greatest ring is joined first
        self.assertEqual(unturned((0, 1, 0, 0, 1)), (1, 0, 0, 1, 0))
        self.assertEqual((turned(text=()), unturned(text=())), ((), ()))
        for text in ((0, 0, 1, 1, 1), (0, 1, 2, 3), (0, 0, 0, 1, 2)):
            texts = texts_with(text)
            self.assertEqual(sorted(turned(one) for one in texts), texts)

    def test_refusals(self):
        wrong = NO_TUPLE + (
            ((),), ((0, 0),), ((1, 0),), ((0, 1), (0,)), ((1,), (0, 1)), ((0,), None), ((0, True),), (0,), ([0],),
            ((0, 1, 0, 1),), ((0, -1),), ("0",), ((0, 1), (0, 0, 1)), ((0,), ()), (((0,),),), ((True,),),
        )
        check_refusals(self, text_of_rings, {"rings": ((0,), (0, 1), (0, 1))}, {"rings": wrong})


if __name__ == "__main__":
    unittest.main()
