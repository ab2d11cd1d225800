import itertools
import unittest
from fractions import Fraction

from pushedback.copying import (
    chance_copied, chance_of_spelling, is_spelling, pop_copied, push_copied, spellings_of, text_of_spelling,
)
from pushedback.evens import pop_even, push_even
from pushedback.quotients import shares_of
from pushedback.tablecoder import pop_by, push_by
from tests.refusals import NO_NUMBER, NO_POSITIVE, NO_TUPLE, check_refusals
from tests.trees import pair

BIG = 10 ** 60 + 7
CASES = ((2, 2, (1, 1)), (2, 3, (1, 3)), (3, 1, (2, 1)), (1, 4, (5, 2)), (2, 40, (1, 1)))
NO_PAIR = NO_TUPLE + ((), (1,), (1, 1, 1), (0, 1), (1, 0), (-1, 1), (True, 1), (1, None), [1, 1])


def written(spelling):
    text = []
    for stroke in spelling:
        if stroke[0] == "new":
            text.extend(stroke[1])
        else:
            for _ in range(stroke[2]):
                text.append(text[-stroke[1]])
    return tuple(text)


def strokes_next(most, text, begin):
    """All strokes that write what is next there, in the order of the document, by trying each."""
    strokes = []
    for length in range(1, min(most, len(text) - begin) + 1):
        part = text[begin:begin + length]
        strokes.append(("new", part))
        for distance in range(1, begin + 1):
            stroke = ("copy", distance, length)
            if written([("new", text[:begin]), stroke]) == text[:begin] + part:
                strokes.append(stroke)
    return strokes


def length_of(stroke):
    return len(stroke[1]) if stroke[0] == "new" else stroke[2]


def all_spellings(most, text, begin=0):
    if begin == len(text):
        return [()]
    spellings = []
    for stroke in strokes_next(most, text, begin):
        rests = all_spellings(most, text, begin + length_of(stroke))
        spellings.extend([(stroke,) + rest for rest in rests])
    return spellings


def stroke_chance(letters, most, weights, many, begin, stroke):
    chance = Fraction(1, min(most, many - begin))
    new = stroke[0] == "new"
    if begin:
        chance *= Fraction(weights[0] if new else weights[1], sum(weights))
    if new:
        return chance / letters ** len(stroke[1])
    return chance / begin


def spelling_chance(letters, most, weights, spelling, many, begin=0):
    chance = Fraction(1)
    for stroke in spelling:
        chance *= stroke_chance(letters, most, weights, many, begin, stroke)
        begin += length_of(stroke)
    return chance


def table_at(letters, most, weights, text, begin):
    shares = []
    for stroke in strokes_next(most, text, begin):
        behind = begin + length_of(stroke)
        rest = sum(
            spelling_chance(letters, most, weights, rows, len(text), behind)
            for rows in all_spellings(most, text, behind))
        shares.append(pair(stroke_chance(letters, most, weights, len(text), begin, stroke) * rest))
    return shares_of(tuple(shares))


def popped(stack, letters, most, weights, many):
    """The pop, step by step, by the public functions."""
    spelling = []
    while len(written(spelling)) < many:
        begin = len(written(spelling))
        length, stack = pop_even(stack, min(most, many - begin))
        kind = 0
        if begin:
            kind, stack = pop_by(stack, weights)
        if kind:
            distance, stack = pop_even(stack, begin)
            spelling.append(("copy", distance + 1, length + 1))
        else:
            part = []
            for _ in range(length + 1):
                letter, stack = pop_even(stack, letters)
                part.append(letter)
            spelling.append(("new", tuple(part)))
    text = written(spelling)
    for at in reversed(range(len(spelling))):
        begin = len(written(spelling[:at]))
        place = strokes_next(most, text, begin).index(spelling[at])
        stack = push_by(stack, table_at(letters, most, weights, text, begin), place)
    return text, stack


def pushed(stack, letters, most, weights, text):
    """The push, step by step, by the public functions."""
    spelling = []
    while written(spelling) != text:
        begin = len(written(spelling))
        place, stack = pop_by(stack, table_at(letters, most, weights, text, begin))
        spelling.append(strokes_next(most, text, begin)[place])
    for at in reversed(range(len(spelling))):
        stroke = spelling[at]
        begin = len(written(spelling[:at]))
        if stroke[0] == "new":
            for letter in reversed(stroke[1]):
                stack = push_even(stack, letters, letter)
        else:
            stack = push_even(stack, begin, stroke[1] - 1)
        if begin:
            stack = push_by(stack, weights, 0 if stroke[0] == "new" else 1)
        stack = push_even(stack, min(most, len(text) - begin), length_of(stroke) - 1)
    return stack


class SpellingTest(unittest.TestCase):
    def test_is_spelling(self):
        new = ("new", (0, 1))
        for thing in (
            (), (new,), (new, ("copy", 2, 3)), (("new", (0,)), ("copy", 1, 1), ("copy", 2, 3)), (new, new),
        ):
            self.assertIs(is_spelling(2, 3, thing), True)
        for thing in NO_TUPLE + (
            new, (("copy", 1, 1),), (new, ("copy", 3, 1)), (new, ("copy", 0, 1)), (new, ("copy", 1, 0)),
            (new, ("copy", 2, 4)), (("new", (0, 1, 0, 1)),), (("new", ()),), (("new", (2,)),), (("new", [0]),),
            (("new", (True,)),), (("new", 0),), (["new", (0,)],), (new, ("copy", True, 1)), (new, ("copy", 1, True)),
            (new, ("copy", 1)), (new, ("copy", 1, 1, 1)), (("new",),), (("new", (0,), 1),), (("old", (0,)),),
            (new, (None, 1, 1)), (new, ()), (new, None), (new, ("new", 1, 1)), (("copy", (0,)),), [new],
            (new, (["copy"], 1, 1)), ((True, (0,)),), (new, ("copy", -1, 1)), (new, ("copy", BIG, 1)),
        ):
            self.assertIs(is_spelling(2, 3, thing), False, thing)
        self.assertIs(is_spelling(2, BIG, (new, ("copy", 2, BIG), ("copy", BIG + 2, 1))), True)
        self.assertIs(is_spelling(2, BIG, (new, ("copy", 2, BIG), ("copy", BIG + 3, 1))), False)
        check_refusals(
            self, is_spelling, {"letters": 2, "most": 3, "thing": ()},
            {"letters": NO_POSITIVE, "most": NO_POSITIVE})

    def test_text_of_spelling(self):
        for spelling in (
            (), (("new", (0, 1)), ("copy", 2, 3)), (("new", (BIG, 7, 0)), ("copy", 1, 9), ("new", (5,)), ("copy", 12, 13)),
        ):
            self.assertEqual(text_of_spelling(spelling), written(spelling))
        wrong = NO_TUPLE + (
            (("copy", 1, 1),), (("new", ()),), (("new", (0,)), ("copy", 2, 1)), (("new", (-1,)),), ("new", (0,)),
            (("new", (0,)), ("copy", 1, 0)), [("new", (0,))], (["new", (0,)],), (("new", (True,)),),
        )
        check_refusals(self, text_of_spelling, {"spelling": (("new", (9,)),)}, {"spelling": wrong})

    def test_chance_of_spelling(self):
        for letters, most, weights in CASES:
            for many in range(4):
                for text in itertools.product(range(letters), repeat=many):
                    for spelling in all_spellings(most, text):
                        told = spelling_chance(letters, most, weights, spelling, many)
                        self.assertEqual(chance_of_spelling(letters, most, weights, spelling), pair(told))
        self.assertEqual(chance_of_spelling(2, 3, (1, 1), ()), (1, 1))
        wrong = NO_TUPLE + ((("new", (2,)),), (("new", (0, 0, 0, 0)),), (("copy", 1, 1),), (("new", ()),))
        check_refusals(
            self, chance_of_spelling, {"letters": 2, "most": 3, "pair": (1, 1), "spelling": (("new", (0,)),)},
            {"letters": NO_POSITIVE, "most": NO_POSITIVE, "pair": NO_PAIR, "spelling": wrong})

    def test_spellings_of(self):
        for letters, most, _ in CASES:
            for many in range(5):
                for text in itertools.product(range(letters), repeat=many):
                    told = spellings_of(letters, most, text)
                    self.assertIs(type(told), list)
                    self.assertEqual(sorted(told), sorted(all_spellings(most, text)))
                    for spelling in told[:20]:
                        self.assertEqual(text_of_spelling(spelling), text)
                        self.assertIs(is_spelling(letters, most, spelling), True)
        self.assertEqual(spellings_of(2, 2, ()), [()])
        self.assertEqual(len(spellings_of(1, 6, (0,) * 6)), 2520)
        first = spellings_of(2, 2, (0, 1))
        first.clear()
        self.assertEqual(len(spellings_of(2, 2, (0, 1))), 2)


class CopiedTest(unittest.TestCase):
    def test_chances(self):
        for letters, most, weights in CASES:
            for many in range(5):
                total = 0
                for text in itertools.product(range(letters), repeat=many):
                    told = sum(
                        spelling_chance(letters, most, weights, spelling, many)
                        for spelling in all_spellings(most, text))
                    self.assertEqual(chance_copied(letters, most, weights, text), pair(told))
                    total += told
                self.assertEqual(total, 1)

    def test_pushes_and_pops(self):
        for letters, most, weights in CASES:
            for many in range(4):
                for stack in list(range(30)) + [BIG]:
                    text, left = pop_copied(stack, letters, most, weights, many)
                    self.assertEqual((text, left), popped(stack, letters, most, weights, many))
                    self.assertEqual(push_copied(left, letters, most, weights, text), stack)
                for text in itertools.product(range(letters), repeat=many):
                    for stack in (0, 1, 5, 77, BIG):
                        whole = push_copied(stack, letters, most, weights, text)
                        self.assertEqual(whole, pushed(stack, letters, most, weights, text))
                        self.assertEqual(pop_copied(whole, letters, most, weights, many), (text, stack))

    def test_long_texts(self):
        for text in ((0, 1) * 8, (0,) * 16, (0, 0, 1, 0, 1, 1, 0, 1, 1, 1, 0, 0, 0, 0, 1, 0)):
            for most in (1, 3, 16):
                for stack in (0, 3, BIG):
                    whole = push_copied(stack, 2, most, (1, 2), text)
                    self.assertEqual(pop_copied(whole, 2, most, (1, 2), 16), (text, stack))
                other, left = pop_copied(BIG ** 2, 3, most, (1, 2), 16)
                self.assertEqual(push_copied(left, 3, most, (1, 2), other), BIG ** 2)

    def test_refusals(self):
        good = {"letters": 2, "most": 3}
        wrong = {"letters": NO_POSITIVE, "most": NO_POSITIVE}
        no_text = NO_TUPLE + ((2,), (-1,), (0, True), (0, None), [0, 1])
        check_refusals(self, spellings_of, {**good, "text": (0, 1)}, {**wrong, "text": no_text})
        good["pair"] = (1, 2)
        wrong["pair"] = NO_PAIR
        check_refusals(self, chance_copied, {**good, "text": (0, 1)}, {**wrong, "text": no_text})
        check_refusals(
            self, push_copied, {"stack": 5, **good, "text": (0, 1)}, {"stack": NO_NUMBER, **wrong, "text": no_text})
        check_refusals(
            self, pop_copied, {"stack": 5, **good, "many": 2}, {"stack": NO_NUMBER, **wrong, "many": NO_NUMBER})


if __name__ == "__main__":
    unittest.main()
