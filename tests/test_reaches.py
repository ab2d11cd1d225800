import unittest

from pushedback.reaches import places_of, reach_of
from tests.refusals import NO_BASE, NO_NUMBER, NO_QUOTIENT, check_refusals


class ReachesTest(unittest.TestCase):
    def test_places_of(self):
        for base in (2, 3, 10, 256):
            for number in range(300):
                places = places_of(base, number)
                self.assertTrue(base ** places > number)
                self.assertTrue(places == 0 or base ** (places - 1) <= number)
            for many in (1, 5, 60):
                self.assertEqual(places_of(base, base ** many - 1), many)
                self.assertEqual(places_of(base, base ** many), many + 1)
                self.assertEqual(places_of(base, base ** many + 1), many + 1)
        self.assertEqual(places_of(2, 0), 0)
        self.assertEqual(places_of(base=10, number=10 ** 999), 1000)

    def test_reach_of(self):
        for base in (2, 3, 16):
            for top in range(1, 40):
                for bottom in (1, 2, 3, 7):
                    if top % bottom == 0 and bottom > 1 or top % 2 == 0 and bottom == 2:
                        continue
                    reach = reach_of(base, (top, bottom))
                    self.assertTrue(base ** reach * bottom >= top)
                    self.assertTrue(reach == 0 or base ** (reach - 1) * bottom < top)
            self.assertEqual(reach_of(base, (base ** 40, 1)), 40)
            self.assertEqual(reach_of(base, (base ** 40 + 1, 1)), 41)
            self.assertEqual(reach_of(base, (base ** 40 - 1, 1)), 40)
        self.assertEqual(reach_of(2, (1, 1)), 0)
        self.assertEqual(reach_of(2, (1, 10 ** 60)), 0)
        self.assertEqual(reach_of(2, (17, 2)), 4)

    def test_refusals(self):
        check_refusals(self, places_of, {"base": 2, "number": 8}, {"base": NO_BASE, "number": NO_NUMBER})
        wrong = NO_QUOTIENT + ((0, 1), (-1, 2))
        check_refusals(self, reach_of, {"base": 2, "one": (8, 3)}, {"base": NO_BASE, "one": wrong})


if __name__ == "__main__":
    unittest.main()
