import unittest

from pushedback.schemekinds import is_scheme, levels_of
from tests.refusals import check_refusals
from tests.schemes import COIN, LEVELS, NO_SCHEME, SCHEMES

BIG = 10 ** 60 + 7


class SchemekindsTest(unittest.TestCase):
    def test_schemes(self):
        for thing in SCHEMES:
            self.assertIs(is_scheme(thing), True, thing)
            self.assertIs(is_scheme(thing=("row", (thing, thing))), True, thing)
        self.assertIs(is_scheme(("even", BIG)), True)
        self.assertIs(is_scheme(("set", BIG, BIG)), True)
        deep = COIN
        for _ in range(14):
            deep = ("row", (deep,))
        self.assertIs(is_scheme(deep), True)
        self.assertEqual(levels_of(deep), 15)

    def test_nearly_schemes(self):
        for thing in NO_SCHEME:
            self.assertIs(is_scheme(thing), False, thing)
            self.assertIs(is_scheme(("row", (COIN, thing))), False, thing)
            self.assertIs(is_scheme(("choice", (1, 0), (COIN, thing))), False, thing)
            self.assertIs(is_scheme(("hidden", (1, 0), (COIN, thing))), False, thing)

    def test_each_part_left_out_or_put_in(self):
        for scheme in SCHEMES:
            for at in range(len(scheme)):
                self.assertIs(is_scheme(scheme[:at] + scheme[at + 1:]), False, (scheme, at))
                for odd in (None, True, "x", [], -1):
                    self.assertIs(is_scheme(scheme[:at] + (odd,) + scheme[at + 1:]), False, (scheme, at, odd))
                    self.assertIs(is_scheme(scheme[:at] + (odd,) + scheme[at:]), False, (scheme, at, odd))
            self.assertIs(is_scheme(list(scheme)), False)

    def test_levels(self):
        for scheme, levels in LEVELS:
            self.assertEqual(levels_of(scheme), levels, scheme)
        check_refusals(self, levels_of, {"scheme": COIN}, {"scheme": NO_SCHEME})


if __name__ == "__main__":
    unittest.main()
