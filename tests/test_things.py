import copy
import itertools
import math
import unittest
from fractions import Fraction

from pushedback.bags import chance_of_bag
from pushedback.copying import chance_copied
from pushedback.learning import chance_learned
from pushedback.mixing import chance_mixed
from pushedback.quotients import total_of
from pushedback.schemekinds import is_scheme
from pushedback.things import chance_in, how_many, is_thing, things_of
from pushedback.treecoder import chance_treed
from tests.refusals import check_refusals
from tests.schemes import BENT, COIN, EITHER, GAPPED, LEARNER, NO_SCHEME, SCHEMES, TALL
from tests.trees import pair, possible_texts

BIG = 10 ** 60 + 7
ODD = (
    True, False, None, "", "0", -1, BIG, [], [0], [0, 1], (True,), (None,), ("0",), (-1,), (0, False), (0, [1]),
    (0, 1, 0, 1, 0, 1, 0, 1), ((),), ((0,),), (0, (True, 0)), (BIG, 0), ("even", 1), (0, None),
)


def things_by_hand(scheme):
    """The set of the things, from the words of the document."""
    word = scheme[0]
    if word == "even":
        return set(range(scheme[1]))
    if word == "table":
        return {k for k, count in enumerate(scheme[1]) if count}
    if word == "row":
        return set(itertools.product(*[things_by_hand(part) for part in scheme[1]]))
    if word in ("choice", "hidden"):
        pairs = {
            (k, thing) for k, count in enumerate(scheme[1]) if count for thing in things_by_hand(scheme[2][k])}
        return pairs if word == "choice" else {thing for _, thing in pairs}
    if word == "set":
        return set(itertools.combinations(range(scheme[1]), scheme[2]))
    if word == "order":
        return set(itertools.permutations(range(scheme[1])))
    if word == "copies":
        return set(itertools.product(range(scheme[1]), repeat=scheme[4]))
    learner = scheme[1][0] if word == "mixed" else scheme[1]
    texts = possible_texts(learner, scheme[-1])
    return {tuple(sorted(text)) for text in texts} if word == "bag" else set(texts)


def chance_by_hand(scheme, thing):
    word = scheme[0]
    if word == "even":
        return Fraction(1, scheme[1])
    if word == "table":
        return Fraction(scheme[1][thing], sum(scheme[1]))
    if word == "row":
        chance = Fraction(1)
        for part, own in zip(scheme[1], thing):
            chance *= chance_by_hand(part, own)
        return chance
    if word == "choice":
        return Fraction(scheme[1][thing[0]], sum(scheme[1])) * chance_by_hand(scheme[2][thing[0]], thing[1])
    if word == "hidden":
        return sum(
            Fraction(count, sum(scheme[1])) * chance_by_hand(part, thing)
            for count, part in zip(*scheme[1:]) if count and thing in things_by_hand(part))
    if word == "set":
        return Fraction(1, math.comb(*scheme[1:]))
    if word == "order":
        return Fraction(1, math.factorial(scheme[1]))
    functions = {
        "learned": chance_learned, "treed": chance_treed, "mixed": chance_mixed, "bag": chance_of_bag,
        "copies": chance_copied,
    }
    return Fraction(*functions[word](*scheme[1:-1], thing))


def size_by_hand(scheme):
    """Whether listing the things by hand is no great work."""
    return "999999" not in repr(scheme)


class ThingsTest(unittest.TestCase):
    def test_things_and_chances(self):
        for scheme in SCHEMES:
            things = things_of(scheme)
            self.assertIs(type(things), list)
            told = things_by_hand(scheme) if size_by_hand(scheme) else set(things)
            self.assertEqual(len(things), len(told), scheme)
            self.assertEqual(set(things), told)
            self.assertEqual(how_many(scheme), len(told))
            for thing in things:
                self.assertIs(is_thing(scheme, thing), True, (scheme, thing))
                chance = chance_in(scheme, thing)
                self.assertTrue(chance[0] > 0)
                if size_by_hand(scheme):
                    self.assertEqual(chance, pair(chance_by_hand(scheme, thing)))
            self.assertEqual(total_of(tuple(chance_in(scheme, thing) for thing in things)), (1, 1))

    def test_any_value_is_judged(self):
        for scheme in SCHEMES:
            if not size_by_hand(scheme):
                continue
            told = things_by_hand(scheme)
            # a bool anywhere in a value keeps it from being a thing, though it be equal to one
            tried = [(thing, "True" not in repr(thing) and "False" not in repr(thing)) for thing in ODD]
            for other in SCHEMES[:30]:
                if size_by_hand(other):
                    tried.extend([(thing, True) for thing in sorted(things_by_hand(other), key=repr)[:6]])
            for thing, plain in tried:
                among = plain and "[" not in repr(thing) and thing in told
                self.assertIs(is_thing(scheme, thing), among, (scheme, thing))
                if not among:
                    self.assertEqual(chance_in(scheme, thing), (0, 1))

    def test_document(self):
        self.assertEqual(chance_in(EITHER, 0), (5, 8))
        self.assertEqual(chance_in(EITHER, 1), (3, 8))
        self.assertEqual(chance_in(EITHER, 2), (0, 1))
        self.assertEqual(sorted(things_of(EITHER)), [0, 1])
        self.assertIs(is_thing(EITHER, True), False)
        self.assertEqual(chance_in(EITHER, True), (0, 1))
        self.assertEqual(things_of(("row", ())), [()])
        self.assertEqual(chance_in(("row", ()), ()), (1, 1))

    def test_many_things(self):
        million = ("even", 10 ** 6)
        for scheme, many in (
            (million, 10 ** 6), (("row", (million,) * 10), 10 ** 60), (("order", 20), math.factorial(20)),
            (("set", 20, 10), math.comb(20, 10)), (("learned", (1, (1, 0, 1, 1)), 40), 3 ** 40),
            (("treed", LEARNER, TALL, (0, 1), 40), 2 ** 40), (("mixed", (GAPPED, 1, (1, 2)), (1,), 16), 2 ** 16),
            (("copies", 8, 4, (1, 1), 16), 8 ** 16), (("bag", (1, (1, 1, 1)), 8), math.comb(10, 2)),
            (("choice", (1, 0, 2), (million, million, ("row", (million, EITHER)))), 3 * 10 ** 6),
            (("row", (EITHER, million)), 2 * 10 ** 6), (("choice", (5, 999999), (COIN, BENT)), 4),
        ):
            self.assertEqual(how_many(scheme), many)
        self.assertIs(is_thing(("row", (million,) * 10), (999999,) * 10), True)
        self.assertEqual(chance_in(("row", (million,) * 10), (999999,) * 10), (1, 10 ** 60))
        self.assertEqual(chance_in(("choice", (1, 999999), (million, COIN)), (0, 3)), (1, 10 ** 12))

    def test_sums_of_long_texts(self):
        for scheme in (
            ("copies", 2, 4, (1, 3), 8), ("mixed", (LEARNER, 3, (1, 3)), (0, 1, 1), 8), ("bag", (2, (1, 3, 1)), 8),
            ("hidden", (3, 1), (("copies", 2, 8, (1, 1), 7), ("mixed", (LEARNER, 2, (1, 2)), (0, 0), 7))),
        ):
            things = things_of(scheme)
            self.assertEqual(how_many(scheme), len(things))
            self.assertEqual(total_of(tuple(chance_in(scheme, thing) for thing in things)), (1, 1))

    def test_lists_are_new(self):
        for scheme in SCHEMES:
            first = things_of(scheme)
            kept = list(first)
            first.append(None)
            self.assertEqual(things_of(scheme), kept)

    def test_what_is_handed_in_stays(self):
        for scheme in SCHEMES[:20]:
            for thing in ([], [0, [1]], ([0], [1, []]), (0, [COIN])):
                kept = copy.deepcopy(thing)
                self.assertIs(is_thing(scheme, thing), False)
                self.assertEqual(chance_in(scheme, thing), (0, 1))
                self.assertIs(is_scheme(thing), False)
                self.assertEqual(thing, kept)

    def test_refusals(self):
        for function in (things_of, how_many):
            check_refusals(self, function, {"scheme": COIN}, {"scheme": NO_SCHEME})
        for function in (is_thing, chance_in):
            check_refusals(self, function, {"scheme": COIN, "thing": None}, {"scheme": NO_SCHEME})


if __name__ == "__main__":
    unittest.main()
