import unittest

from pushedback.errors import InvalidText
from pushedback.hiddens import pick_table, picks_of, thing_by
from pushedback.schemeclasses import Hidden, Scheme
from pushedback.schemecoder import pop_thing, push_thing
from pushedback.schemekinds import levels_of
from pushedback.schemeleans import has_lean, lean_of_thing
from pushedback.schemetexts import scheme_line
from pushedback.things import chance_in, how_many, things_of
from tests.refusals import NO_NUMBER, NO_STRING, NO_TABLE, check_refusals, refused_word
from tests.schemes import BENT, COIN, EITHER, NO_SCHEME, SCHEMES

BIG = 10 ** 60 + 7
NO_THING = NO_NUMBER + (2, BIG, (0, 1))


class Mine(Scheme):
    pass


class MyHidden(Hidden):
    pass


def makers(scheme):
    """Objects of the scheme, of each class that can have it."""
    made = [Scheme(scheme), Scheme(form=scheme), Mine(scheme)]
    if scheme[0] == "hidden":
        made.extend([Hidden(scheme[1], *scheme[2]), MyHidden(scheme[1], *scheme[2])])
    return made


class SchemeTest(unittest.TestCase):
    def test_as_the_functions(self):
        for scheme in SCHEMES:
            things = things_of(scheme)[:5]
            for one in makers(scheme):
                self.assertEqual(one.form_now, scheme)
                self.assertEqual(one.levels_now, levels_of(scheme))
                self.assertEqual(one.many_now, how_many(scheme))
                self.assertEqual(str(one), scheme_line(scheme))
                for thing in things:
                    self.assertIs(thing in one, True)
                    self.assertEqual(one.chance(thing), chance_in(scheme, thing))
                    for stack in (0, 5, BIG):
                        after = one.pushed(stack, thing)
                        self.assertEqual(after, push_thing(stack, scheme, thing))
                        self.assertEqual(one.popped(after), (thing, stack))
                    if has_lean(scheme):
                        self.assertEqual(one.lean(thing), lean_of_thing(scheme, thing))
                        self.assertEqual(one.lean(thing=thing), lean_of_thing(scheme, thing))
                    else:
                        self.assertEqual(refused_word(one.lean, thing), "scheme")
                self.assertEqual(one.popped(stack=BIG), pop_thing(BIG, scheme))
                self.assertEqual(one.pushed(stack=7, thing=things[0]), push_thing(7, scheme, things[0]))
                for thing in (True, None, "0", [], -1, (True,), [0], one, COIN):
                    self.assertIs(thing in one, False, thing)
                    self.assertEqual(one.chance(thing=thing), (0, 1))

    def test_equality(self):
        for scheme in SCHEMES:
            for one in makers(scheme):
                for other in makers(scheme):
                    self.assertIs(one == other, True)
                for other in makers(COIN) + [scheme, None, True, str(one), list(scheme)]:
                    self.assertIs(one == other, scheme == COIN and isinstance(other, Scheme))
        self.assertIs(Hidden((1, 1), COIN, BENT) == Hidden((1, 1), BENT, COIN), False)
        self.assertIs(Hidden((1, 1), COIN, BENT) != Scheme(EITHER), False)

    def test_sums(self):
        for left in (COIN, EITHER, ("row", ())):
            for right in (BENT, EITHER, ("row", (COIN,))):
                for one in makers(left):
                    for other in makers(right):
                        whole = one + other
                        self.assertIs(type(whole), Scheme)
                        self.assertEqual(whole.form_now, ("row", (left, right)))
                        self.assertEqual((one.form_now, other.form_now), (left, right))
        for one in makers(EITHER):
            for other in NO_SCHEME + SCHEMES[:4]:
                self.assertEqual(refused_word(lambda added: one + added, other), "other")

    def test_read(self):
        for scheme in SCHEMES:
            for maker in (Scheme, Mine, Hidden, Scheme(COIN)):
                one = maker.read(scheme_line(scheme))
                self.assertIs(type(one), Scheme)
                self.assertEqual(one.form_now, scheme)
        self.assertEqual(Scheme.read(text="even 6").form_now, ("even", 6))
        with self.assertRaises(InvalidText) as caught:
            Scheme.read("row ( even 6 )")
        self.assertEqual((caught.exception.line, caught.exception.field), (0, 0))
        with self.assertRaises(InvalidText) as caught:
            Scheme.read("even 06")
        self.assertEqual((caught.exception.line, caught.exception.field), (0, 1))
        for text in NO_STRING:
            self.assertEqual(refused_word(Scheme.read, text), "text")

    def test_refusals(self):
        check_refusals(self, Scheme, {"form": COIN}, {"form": NO_SCHEME + (Scheme(COIN),)})
        for one in makers(EITHER):
            check_refusals(self, one.pushed, {"stack": 5, "thing": 1}, {"stack": NO_NUMBER, "thing": NO_THING})
            check_refusals(self, one.popped, {"stack": 5}, {"stack": NO_NUMBER})
            check_refusals(self, one.lean, {"thing": 1}, {"thing": NO_THING})


class HiddenTest(unittest.TestCase):
    def test_picks(self):
        for scheme in SCHEMES:
            if scheme[0] == "hidden":
                for one in (Hidden(scheme[1], *scheme[2]), MyHidden(scheme[1], *scheme[2])):
                    self.assertEqual(one.form_now, scheme)
                    for thing in things_of(scheme):
                        self.assertEqual(one.picks(thing), picks_of(scheme, thing))
                        self.assertEqual(one.table_for(thing), pick_table(scheme, thing))
                        for stack in (0, 7, BIG):
                            self.assertEqual(one.picked(stack, thing), thing_by(stack, scheme, thing))
                    self.assertEqual(one.picks(thing=thing), one.picks(thing))
                    self.assertEqual(one.table_for(thing=thing), one.table_for(thing))
                    self.assertEqual(one.picked(stack=3, thing=thing), one.picked(3, thing))
        self.assertTrue(issubclass(Hidden, Scheme))
        self.assertEqual(Hidden((5,), COIN).form_now, ("hidden", (5,), (COIN,)))

    def test_refusals(self):
        for maker in (Hidden, MyHidden):
            for counts in NO_TABLE:
                self.assertEqual(refused_word(maker, counts, COIN, BENT), "counts")
                self.assertEqual(refused_word(maker, counts, None), "counts")
            for scheme in NO_SCHEME + (Scheme(COIN),):
                self.assertEqual(refused_word(maker, (1, 1), COIN, scheme), "schemes")
                self.assertEqual(refused_word(maker, (1, 0), COIN, scheme), "schemes")
            for schemes in ((), (COIN,), (COIN, BENT, COIN), ((COIN, BENT),)):
                self.assertEqual(refused_word(maker, (1, 1), *schemes), "schemes")
        one = Hidden((1, 1), COIN, BENT)
        check_refusals(self, one.picks, {"thing": 1}, {"thing": NO_THING})
        check_refusals(self, one.table_for, {"thing": 1}, {"thing": NO_THING})
        check_refusals(self, one.picked, {"stack": 5, "thing": 1}, {"stack": NO_NUMBER, "thing": NO_THING})


if __name__ == "__main__":
    unittest.main()
