import itertools
import unittest

from pushedback.registerkinds import fits_register, is_register, is_state
from pushedback.stretches import exact_for_all, exact_rests, is_exact, slips_at, sticks_at, stretch_of
from pushedback.widening import next_exact, next_for_all
from tests import registers
from tests.refusals import NO_NUMBER, NO_POSITIVE, NO_STRIP, check_refusals
from tests.registers import BIG, NO_REGISTER, small_cases

STRIP, BEATS = (0, 0, 1, 2), (0, 1, 0, 1)
TOO_LONG = NO_STRIP + ((0,) * 5, (0, 1, 2, 0, 1))
NO_REGISTER_BASE = NO_NUMBER + (0, 1, 17, 256, BIG)


class RegisterkindsTest(unittest.TestCase):
    def test_is_register(self):
        for thing in NO_REGISTER:
            self.assertIs(is_register(thing), False, thing)
        for thing in itertools.product((2, 3, 16), (1, 2, 4096)):
            self.assertIs(is_register(thing), True)
            self.assertIs(is_register(thing=thing), True)

    def test_fits_register(self):
        for base, least in ((2, 4), (16, 1), (3, 64)):
            for size in (1, 2, 3, 4, 5, 63, 64):
                self.assertIs(fits_register((base, least), (3,) * size), size <= least)
        check_refusals(
            self, fits_register, {"holder": (2, 4), "strip": (0,) * 5}, {"holder": NO_REGISTER, "strip": NO_STRIP})

    def test_is_state(self):
        for register in ((2, 4), (16, 1), (3, 4096)):
            base, least = register
            for thing in (least, least + 1, base * least - 1):
                self.assertIs(is_state(register, thing), True)
            for thing in (least - 1, base * least, 0, -least, BIG, True, None, str(least), (least,), [least], ()):
                self.assertIs(is_state(register, thing), False)
        self.assertIs(is_state((2, 1), True), False)
        check_refusals(self, is_state, {"holder": (2, 4), "thing": 4}, {"holder": NO_REGISTER})


class StretchesTest(unittest.TestCase):
    def test_stretches(self):
        for register, strip in small_cases():
            for letter in set(strip):
                self.assertEqual(stretch_of(register, strip, letter), registers.stretch(register, strip, letter))
        self.assertEqual(stretch_of((2, 4096), (5,), 5), (4096, 8191))
        self.assertEqual(stretch_of((16, 64), (0,) * 63 + (1,), 1), (1, 15))

    def test_slips_and_sticks(self):
        for register, strip in small_cases():
            for letter in set(strip):
                slips = registers.slipping(register, strip, letter)
                sticks = registers.sticking(register, strip, letter)
                low, high = registers.stretch(register, strip, letter)
                self.assertEqual(bool(slips), high + 1 < register[0] * low)
                self.assertEqual(bool(sticks), high + 1 > register[0] * low)
                for found, state in (
                    (slips, slips_at(register, strip, letter)), (sticks, sticks_at(register, strip, letter)),
                ):
                    if found:
                        self.assertIn(state, found, (register, strip, letter))
                        self.assertIs(type(state), int)
                    else:
                        self.assertIsNone(state, (register, strip, letter))

    def test_wide_registers(self):
        strip = (0,) * 61 + (1, 2, 1)
        for register in ((2, 64), (2, 65), (3, 100), (16, 67), (10, 90)):
            exact = True
            for letter in (0, 1, 2):
                slips = registers.slipping(register, strip, letter)
                sticks = registers.sticking(register, strip, letter)
                exact = exact and not slips and not sticks
                self.assertIn(slips_at(register, strip, letter), slips or [None])
                self.assertIn(sticks_at(register, strip, letter), sticks or [None])
            self.assertIs(is_exact(register, strip), exact)
            self.assertIs(exact, register[1] in (64, 65, 67))

    def test_is_exact(self):
        for register, strip in small_cases():
            slips = [registers.slipping(register, strip, letter) for letter in sorted(set(strip))]
            sticks = [registers.sticking(register, strip, letter) for letter in sorted(set(strip))]
            exact = not any(slips) and not any(sticks)
            self.assertIs(is_exact(register, strip), exact)
            # if it is not, some letter slips and another one sticks
            self.assertEqual(any(slips), any(sticks))
            self.assertFalse(any(slip and stick for slip, stick in zip(slips, sticks)))
            self.assertEqual(exact, register[1] % len(strip) in exact_rests(register[0], strip))

    def test_exact_rests(self):
        for base in (2, 3, 4, 7, 16):
            for size in range(1, 5):
                for strip in itertools.product(range(2), repeat=size):
                    told = tuple(rest for rest in range(size) if is_exact((base, 2 * size + rest), strip))
                    self.assertEqual(exact_rests(base, strip), told)
                    self.assertEqual(exact_rests(base, strip)[0], 0)
        self.assertEqual(exact_rests(2, (0, 1) * 32), tuple(range(0, 64, 2)))
        self.assertEqual(exact_rests(2, (7,) * 64), tuple(range(64)))
        self.assertEqual(exact_rests(base=5, strip=(BIG, 0)), (0,))
        # among the first rest letters there has to be each letter one third as often as among the first 3 rest
        self.assertEqual(exact_rests(3, (0, 1)), (0,))
        self.assertEqual(exact_rests(16, (0,)), (0,))

    def test_exact_for_all(self):
        for base, least in itertools.product((2, 5), (1, 2, 3, 4, 6)):
            for size in range(1, least + 1):
                told = all(is_exact((base, least), strip) for strip in itertools.product(range(2), repeat=size))
                self.assertIs(exact_for_all((base, least), size), told, (base, least, size))
        self.assertIs(exact_for_all((2, 4096), 64), True)
        self.assertIs(exact_for_all((2, 4096), 4096), True)
        self.assertIs(exact_for_all((2, 4096), 63), False)

    def test_refusals(self):
        for function in (stretch_of, slips_at, sticks_at):
            check_refusals(
                self, function, {"holder": (2, 4), "strip": STRIP, "letter": 1},
                {"holder": NO_REGISTER, "strip": TOO_LONG, "letter": NO_NUMBER + (3, BIG)})
        check_refusals(
            self, is_exact, {"holder": (2, 4), "strip": STRIP}, {"holder": NO_REGISTER, "strip": TOO_LONG})
        check_refusals(
            self, exact_rests, {"base": 2, "strip": (0,) * 5}, {"base": NO_REGISTER_BASE, "strip": NO_STRIP})
        check_refusals(
            self, exact_for_all, {"holder": (2, 4), "many": 4},
            {"holder": NO_REGISTER, "many": NO_POSITIVE + (5, BIG)})


class WideningTest(unittest.TestCase):
    def test_next_exact(self):
        for (base, least), strip in small_cases():
            wider = max(least, len(strip))
            while not is_exact((base, wider), strip):
                wider += 1
            for begin in range(1, least + 1):
                told = next_exact((base, begin), strip)
                self.assertTrue(begin <= told[1] <= wider and len(strip) <= told[1])
                self.assertTrue(is_exact(told, strip))
                between = range(max(begin, len(strip)), told[1])
                self.assertFalse([one for one in between if is_exact((base, one), strip)])
                self.assertEqual(told[0], base)
        self.assertEqual(next_exact((2, 1), (0,) * 63 + (1,)), (2, 64))
        self.assertEqual(next_exact((2, 65), (0,) * 63 + (1,)), (2, 65))
        self.assertEqual(next_exact((2, 97), (0,) * 63 + (1,)), (2, 128))
        self.assertEqual(next_exact((2, 5), (4,) * 7), (2, 7))
        self.assertEqual(next_exact((16, 4095), (0, 1)), (16, 4096))

    def test_next_for_all(self):
        for least, many in itertools.product(range(1, 20), range(1, 20)):
            told = min(one for one in range(least, least + many) if one % many == 0)
            self.assertEqual(next_for_all((3, least), many), (3, told))
        self.assertEqual(next_for_all((2, 1), 4096), (2, 4096))

    def test_refusals(self):
        check_refusals(
            self, next_exact, {"holder": (2, 4), "strip": (0,) * 5}, {"holder": NO_REGISTER, "strip": NO_STRIP})
        check_refusals(
            self, next_for_all, {"holder": (2, 4), "many": 5}, {"holder": NO_REGISTER, "many": NO_POSITIVE})


if __name__ == "__main__":
    unittest.main()
