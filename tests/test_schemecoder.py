import itertools
import math
import unittest
from fractions import Fraction

from pushedback.bags import push_bag
from pushedback.copying import push_copied
from pushedback.hiddens import pick_table, picks_of, thing_by
from pushedback.leans import chance_of, lean_after, lean_back, lean_holds
from pushedback.learning import push_learned, table_after
from pushedback.mixcoder import push_mixed
from pushedback.mixing import table_mixed
from pushedback.numberings import order_rank, set_rank
from pushedback.quotients import over, shares_of, times
from pushedback.rowcoder import lean_of_row
from pushedback.schemecoder import pop_thing, push_thing
from pushedback.schemeleans import has_lean, lean_of_thing
from pushedback.tablecoder import pop_by, push_by
from pushedback.things import chance_in, is_thing, things_of
from pushedback.treecoder import push_treed, table_treed
from tests import trees
from tests.refusals import NO_NUMBER, check_refusals
from tests.schemes import BENT, COIN, EITHER, LEARNER, NO_SCHEME, PLAIN, SCHEMES, TALL

BIG = 10 ** 60 + 7
STACKS = (0, 1, 2, 3, 17, 1000, BIG, BIG + 1)
# hidden ones within one another, things of one and of several of the schemes, counts of nought
HIDDEN = tuple(scheme for scheme in SCHEMES if scheme[0] == "hidden") + (
    ("hidden", (1, 2, 3), (("even", 2), ("even", 4), ("table", (0, 1, 1, 1, 5)))),
    ("hidden", (5, 0, 1), (COIN, BENT, ("choice", (1, 1), (COIN, COIN)))),
    ("hidden", (1, 1), (EITHER, ("hidden", (3, 0), (("even", 5), COIN)))),
    ("hidden", (2, 1), (("bag", LEARNER, 3), ("copies", 2, 2, (1, 1), 3))),
    # the least low and the greatest high come from the first, a middle or the last pick
    ("hidden", (1, 3, 1), (("table", (0, 2, 4)), ("table", (4, 2, 3)), ("even", 3))),
    ("hidden", (1, 3, 4), (("table", (0, 2, 4)), ("even", 3), ("table", (2, 2, 0)))),
    ("hidden", (3, 4, 3), (("even", 3), ("table", (1, 0, 2)), ("even", 3))),
    ("hidden", (2, 4, 1), (("even", 3), ("even", 3), ("table", (4, 1, 1)))),
)
NOT_HIDDEN = tuple(scheme for scheme in SCHEMES if scheme[0] != "hidden")
ONE, NOUGHT = (1, 1), (0, 1)
PLAIN_LEAN = (ONE, NOUGHT, NOUGHT)


def some_things(scheme):
    things = sorted(things_of(scheme), key=repr)
    return things[::max(1, len(things) // 12)]


def picked(scheme, thing):
    """The places of the schemes that have the thing, and the table over them."""
    shares = [NOUGHT] * len(scheme[1])
    places = []
    for place, (count, part) in enumerate(zip(*scheme[1:])):
        if count and is_thing(part, thing):
            places.append(place)
            shares[place] = times((count, 1), chance_in(part, thing))
    return tuple(places), shares_of(tuple(shares))


def pushed(stack, scheme, thing):
    """The stack by the words of the document."""
    word = scheme[0]
    if word == "row":
        for part, own in reversed(list(zip(scheme[1], thing))):
            stack = pushed(stack, part, own)
        return stack
    if word == "choice":
        place, own = thing
        return push_by(pushed(stack, scheme[2][place], own), scheme[1], place)
    if word == "hidden":
        place, stack = pop_by(stack, picked(scheme, thing)[1])
        return push_by(pushed(stack, scheme[2][place], thing), scheme[1], place)
    if word == "even":
        return scheme[1] * stack + thing
    if word == "set":
        return math.comb(*scheme[1:]) * stack + set_rank(scheme[1], thing)
    if word == "order":
        return math.factorial(scheme[1]) * stack + order_rank(thing)
    functions = {
        "table": push_by, "learned": push_learned, "treed": push_treed, "mixed": push_mixed, "bag": push_bag,
        "copies": push_copied,
    }
    return functions[word](stack, *scheme[1:len(scheme) - (word != "table")], thing)


def tables_of(scheme, thing):
    """The tables by which the letters of a text are pushed."""
    functions = {"learned": table_after, "treed": table_treed, "mixed": table_mixed}
    return tuple(functions[scheme[0]](*scheme[1:-1], thing[:at]) for at in range(len(thing)))


def lean_by_hand(scheme, thing):
    word = scheme[0]
    if word == "table":
        return lean_of_row((scheme[1],), (thing,))
    if word in ("learned", "treed", "mixed"):
        return lean_of_row(tables_of(scheme, thing), thing)
    if word == "row":
        lean = PLAIN_LEAN
        for part, own in reversed(list(zip(scheme[1], thing))):
            lean = lean_after(lean, lean_by_hand(part, own))
        return lean
    if word == "choice":
        return lean_after(lean_by_hand(scheme[2][thing[0]], thing[1]), lean_of_row((scheme[1],), (thing[0],)))
    if word == "hidden":
        leans = []
        places, table = picked(scheme, thing)
        for place in places:
            lean = lean_after(
                lean_back(lean_of_row((table,), (place,))), lean_by_hand(scheme[2][place], thing))
            leans.append(lean_after(lean, lean_of_row((scheme[1],), (place,))))
        growths, lows, highs = zip(*leans)
        assert len(set(growths)) == 1
        return growths[0], min(lows, key=lambda one: Fraction(*one)), max(highs, key=lambda one: Fraction(*one))
    digit = (pushed(0, scheme, thing), 1)
    return over(ONE, chance_in(scheme, thing)), digit, digit


class SchemecoderTest(unittest.TestCase):
    def test_by_the_words_of_the_document(self):
        for scheme in SCHEMES + HIDDEN:
            for thing in some_things(scheme):
                for stack in STACKS:
                    after = push_thing(stack, scheme, thing)
                    self.assertEqual(after, pushed(stack, scheme, thing), (scheme, thing))
                    self.assertEqual(pop_thing(after, scheme), (thing, stack), (scheme, thing))

    def test_popped_and_pushed_again(self):
        for scheme in SCHEMES + HIDDEN:
            for stack in list(range(60)) + list(STACKS):
                told = pop_thing(stack, scheme)
                self.assertIs(type(told), tuple)
                thing, left = told
                self.assertIs(is_thing(scheme, thing), True)
                self.assertEqual(push_thing(left, scheme, thing), stack, (scheme, stack))

    def test_each_pair_has_a_stack_of_its_own(self):
        for scheme in PLAIN + HIDDEN:
            pairs = [pop_thing(stack, scheme) for stack in range(200)]
            self.assertEqual(len(set(pairs)), 200)

    def test_growth_is_one_by_the_chance(self):
        ground = 10 ** 90
        for scheme in SCHEMES + HIDDEN:
            for thing in some_things(scheme)[:6]:
                top, bottom = chance_in(scheme, thing)
                after = push_thing(ground, scheme, thing)
                self.assertLess(abs(after * top - ground * bottom), ground // 10 ** 40, (scheme, thing))

    def test_long_things(self):
        letters = (0, 1, 1, 0, 1, 0, 0, 1)
        for scheme, thing in (
            (("learned", (1, (1, 2)), 40), letters * 5), (("treed", LEARNER, TALL, (0, 1), 40), letters * 5),
            (("mixed", (LEARNER, 3, (1, 2)), (0, 1, 1), 16), letters * 2), (("bag", LEARNER, 8), tuple(sorted(letters))),
            (("copies", 2, 16, (1, 1), 16), letters * 2), (("set", 20, 10), tuple(range(0, 20, 2))),
            (("order", 20), tuple(range(19, -1, -1))), (("even", 10 ** 6), 999999),
            (("row", (("even", 10 ** 6),) * 26), tuple(range(26))),
            (("choice", (999999, 1), (COIN, ("order", 20))), (1, tuple(range(20)))),
        ):
            for stack in STACKS:
                after = push_thing(stack, scheme, thing)
                self.assertEqual(after, pushed(stack, scheme, thing))
                self.assertEqual(pop_thing(after, scheme), (thing, stack))

    def test_document(self):
        self.assertEqual(push_thing(5, EITHER, 0), 8)
        self.assertEqual(push_thing(7, EITHER, 0), 9)
        self.assertEqual(push_thing(5, ("row", ()), ()), 5)
        self.assertEqual(pop_thing(5, ("row", ())), ((), 5))

    def test_consequences(self):
        # just one pick: as by the choice; the tree of one leaf: as by the learner
        for scheme in HIDDEN:
            for thing in some_things(scheme):
                picks = picks_of(scheme, thing)
                if len(picks) == 1:
                    choice = ("choice",) + scheme[1:]
                    for stack in STACKS:
                        self.assertEqual(
                            push_thing(stack, scheme, thing), push_thing(stack, choice, (picks[0], thing)))
        for stack in STACKS:
            self.assertEqual(pop_thing(stack, ("treed", LEARNER, (), (), 4)), pop_thing(stack, ("learned", LEARNER, 4)))
        for learner, depth, share, ahead in (
            (LEARNER, 1, (1, 2), (1,)), ((1, (2, 1)), 2, (1, 3), (0, 1)), ((1, (2, 0, 1)), 1, (2, 5), (2,)),
        ):
            every = sorted(trees.all_trees(len(learner[1]), depth))
            priors = tuple(trees.pair(trees.prior(Fraction(*share), depth, tree)) for tree in every)
            parts = tuple(
                ("treed", learner, tree, ahead[depth - trees.depth_of(tree):], 3) for tree in every)
            hidden = ("hidden", shares_of(priors), parts)
            mixed = ("mixed", (learner, depth, share), ahead, 3)
            for thing in things_of(mixed):
                self.assertEqual(chance_in(hidden, thing), chance_in(mixed, thing))

    def test_refusals(self):
        check_refusals(
            self, push_thing, {"stack": 5, "scheme": EITHER, "thing": 1},
            {"stack": NO_NUMBER, "scheme": NO_SCHEME, "thing": NO_NUMBER + (2, BIG)})
        check_refusals(self, pop_thing, {"stack": 5, "scheme": EITHER}, {"stack": NO_NUMBER, "scheme": NO_SCHEME})
        for scheme in SCHEMES:
            check_refusals(
                self, push_thing, {"stack": 5, "scheme": scheme, "thing": things_of(scheme)[0]},
                {"thing": (True, None, "0", [], -1, (True,), (0, 0, 0, 0, 0, 0), 10 ** 7, [0, 1])})


class HiddensTest(unittest.TestCase):
    def test_picks(self):
        for scheme in HIDDEN:
            for thing in things_of(scheme):
                places, table = picked(scheme, thing)
                self.assertEqual(picks_of(scheme, thing), places)
                self.assertEqual(pick_table(scheme, thing), table)
                self.assertEqual(len(pick_table(scheme, thing)), len(scheme[1]))
                self.assertEqual([type(picks_of(scheme, thing)), type(pick_table(scheme, thing))], [tuple] * 2)
                for stack in STACKS:
                    self.assertEqual(thing_by(stack, scheme, thing), pop_by(stack, table))

    def test_numbers(self):
        scheme = ("hidden", (1, 2, 3), (("even", 2), ("even", 4), ("table", (0, 1, 1, 1, 5))))
        self.assertEqual(picks_of(scheme, 0), (0, 1))
        self.assertEqual(pick_table(scheme, 0), (1, 1, 0))
        self.assertEqual(picks_of(scheme, 1), (0, 1, 2))
        self.assertEqual(pick_table(scheme, 1), (4, 4, 3))
        self.assertEqual(picks_of(scheme, 4), (2,))
        self.assertEqual(pick_table(scheme, 4), (0, 0, 1))
        self.assertEqual(thing_by(9, scheme, 4), (2, 9))
        # the scheme of count 0 is never picked
        self.assertEqual(picks_of(("hidden", (1, 0), (COIN, BENT)), 1), (0,))
        self.assertEqual(pick_table(("hidden", (6, 0), (COIN, BENT)), 1), (1, 0))

    def test_refusals(self):
        no_hidden = NO_SCHEME + NOT_HIDDEN
        for function in (picks_of, pick_table):
            check_refusals(
                self, function, {"scheme": EITHER, "thing": 1},
                {"scheme": no_hidden, "thing": NO_NUMBER + (2, BIG, (0, 1))})
        check_refusals(
            self, thing_by, {"stack": 5, "scheme": EITHER, "thing": 1},
            {"stack": NO_NUMBER, "scheme": no_hidden, "thing": NO_NUMBER + (2, BIG, (0, 1))})


class SchemeleansTest(unittest.TestCase):
    def leaning(self):
        return [scheme for scheme in SCHEMES + HIDDEN if has_lean(scheme)]

    def test_has_lean(self):
        bag, copies = ("bag", LEARNER, 2), ("copies", 2, 2, (1, 1), 2)
        for scheme in PLAIN:
            self.assertIs(has_lean(scheme), scheme[0] not in ("bag", "copies"))
        for odd in (bag, copies):
            for scheme, told in (
                (odd, False), (("row", (COIN, odd)), False), (("row", (odd,)), False), (("row", (COIN, BENT)), True),
                (("choice", (1, 1), (COIN, odd)), False), (("choice", (1, 0), (COIN, odd)), True),
                (("choice", (0, 1), (COIN, odd)), False), (("hidden", (1, 1), (odd, COIN)), False),
                (("hidden", (0, 1), (odd, COIN)), True), (("hidden", (1, 0), (odd, COIN)), False),
                (("row", (("choice", (1, 0), (COIN, odd)), EITHER)), True),
                (("row", (("choice", (1, 1), (COIN, odd)), EITHER)), False), (("row", ()), True),
                (("hidden", (1, 1), (COIN, ("hidden", (0, 2), (odd, EITHER)))), True),
                (("hidden", (1, 1), (COIN, ("hidden", (1, 2), (odd, EITHER)))), False),
                (("choice", (1, 1), (COIN, ("row", (("row", (odd,)),)))), False),
            ):
                self.assertIs(has_lean(scheme), told, scheme)

    def test_by_the_words_of_the_document(self):
        for scheme in self.leaning():
            for thing in some_things(scheme):
                lean = lean_of_thing(scheme, thing)
                self.assertEqual(lean, lean_by_hand(scheme, thing), (scheme, thing))
                self.assertEqual(times(lean[0], chance_in(scheme, thing)), ONE)

    def test_leans_hold(self):
        for scheme in self.leaning():
            for thing in some_things(scheme)[:8]:
                lean = lean_of_thing(scheme, thing)
                for stack in itertools.chain(range(20), STACKS, (10 ** 200,)):
                    after = push_thing(stack, scheme, thing)
                    self.assertIs(lean_holds(lean, stack, after), True, (scheme, thing, stack))

    def test_numbers(self):
        self.assertEqual(lean_of_thing(("even", 6), 4), ((6, 1), (4, 1), (4, 1)))
        self.assertEqual(lean_of_thing(("set", 5, 2), (3, 4)), ((10, 1), (9, 1), (9, 1)))
        self.assertEqual(lean_of_thing(("order", 3), (2, 1, 0)), ((6, 1), (5, 1), (5, 1)))
        self.assertEqual(lean_of_thing(("row", ()), ()), PLAIN_LEAN)
        self.assertEqual(lean_of_thing(("table", (2, 1, 1)), 0), ((2, 1), (-1, 1), (0, 1)))
        self.assertEqual(lean_of_thing(BENT, 0)[0], over(ONE, chance_of((3, 1), 0)))
        self.assertEqual(
            lean_of_thing(("choice", (1, 1), (("even", 3), COIN)), (0, 2)), ((6, 1), (4, 1), (4, 1)))
        self.assertEqual(
            lean_of_thing(("row", (("even", 2), ("even", 3))), (1, 2)), ((6, 1), (5, 1), (5, 1)))
        self.assertEqual(lean_of_thing(EITHER, 0), ((8, 5), (-53, 15), (12, 5)))

    def test_mixed_texts_of_eight_letters(self):
        scheme = ("mixed", (LEARNER, 3, (1, 3)), (0, 1, 1), 8)
        for thing in ((0,) * 8, (0, 1, 1, 0, 1, 0, 0, 1)):
            lean = lean_of_thing(scheme, thing)
            self.assertEqual(times(lean[0], chance_in(scheme, thing)), ONE)
            for stack in STACKS:
                self.assertIs(lean_holds(lean, stack, push_thing(stack, scheme, thing)), True)

    def test_refusals(self):
        check_refusals(self, has_lean, {"scheme": COIN}, {"scheme": NO_SCHEME})
        leanless = NO_SCHEME + tuple(scheme for scheme in SCHEMES if not has_lean(scheme))
        check_refusals(
            self, lean_of_thing, {"scheme": EITHER, "thing": 1},
            {"scheme": leanless, "thing": NO_NUMBER + (2, BIG, (0, 1))})


if __name__ == "__main__":
    unittest.main()
