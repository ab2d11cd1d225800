import unittest

from pushedback.errors import Unread
from pushedback.registerclasses import Ready, Register
from pushedback.stretches import is_exact, stretch_of
from pushedback.streams import read_text, wide_of, write_text
from pushedback.tables import strip_of
from pushedback.widening import next_exact
from tests.refusals import NO_NUMBER, NO_ROW, NO_STRIP, NO_TABLE, check_refusals, refused_word
from tests.registers import BIG
from tests.test_streams import EXACT, NO_DIGITS, NO_STRIPS, NO_TEXT
from tests.test_stretches import NO_REGISTER_BASE, TOO_LONG

STRIP, BEATS, TABLE = (0, 0, 1, 2), (0, 1, 0, 1), (2, 1, 1)
NO_LEAST = NO_NUMBER + (0, 4097, BIG)


class Mine(Register):
    pass


class MyReady(Ready):
    pass


def makers(base, least):
    return Register(base, least), Register(base=base, least=least), Mine(base, least), Ready(base, least, (least,))


class RegisterTest(unittest.TestCase):
    def test_as_the_functions(self):
        for register, strips in EXACT:
            base, least = register
            for one in makers(base, least):
                self.assertEqual((one.base_now, one.least_now, one.form_now), (base, least, register))
                self.assertEqual(one.wide_now, wide_of(register))
                self.assertEqual(len(one), base * least - least)
                self.assertEqual(str(one), f"register {base} {least}")
                for strip in strips:
                    for letter in set(strip):
                        self.assertEqual(one(strip, letter), stretch_of(register, strip, letter))
                        self.assertEqual(one(strip=strip, letter=letter), stretch_of(register, strip, letter))
                    self.assertIs(one.exact(strip), True)
                    text = (strip[-1], strip[0])
                    digits = one.write_all((strip, strip), text)
                    self.assertEqual(digits, write_text(register, (strip, strip), text))
                    self.assertEqual(one.read_all((strip, strip), digits), text)
                    self.assertEqual(read_text(register, (strip, strip), digits), text)

    def test_exact_and_wider(self):
        for base, least in ((2, 3), (2, 5), (3, 7), (16, 9)):
            for one in (Register(base, least), Mine(base, least), Ready(base, least, (least,))):
                for strip in ((0, 1), (0, 1, 2), STRIP, (5,) * 7, (0,) * 63 + (1,)):
                    if len(strip) <= least:
                        self.assertIs(one.exact(strip), is_exact((base, least), strip))
                    wider = one.wider(strip)
                    self.assertIs(type(wider), Register)
                    self.assertEqual(wider.form_now, next_exact((base, least), strip))
                self.assertEqual(one.form_now, (base, least))

    def test_states(self):
        for base, least in ((2, 4), (16, 1), (3, 4096)):
            for one in makers(base, least):
                for thing in (least, least + 1, base * least - 1):
                    self.assertIs(thing in one, True)
                for thing in (least - 1, base * least, -least, BIG, True, None, "4", (least,), [least], one, ()):
                    self.assertIs(thing in one, False, thing)
        self.assertEqual(len(Register(16, 4096)), 61440)
        self.assertEqual(len(Register(2, 1)), 1)

    def test_equality(self):
        for one in makers(2, 4):
            for other in makers(2, 4) + (Ready(2, 4, TABLE), MyReady(2, 4, (1,))):
                self.assertIs(one == other, True)
                self.assertIs(other != one, False)
            for other in (Register(2, 5), Register(4, 2), Ready(3, 4, TABLE), (2, 4), [2, 4], "register 2 4", None, 4):
                self.assertIs(one == other, False)

    def test_least_for(self):
        for base in (2, 3, 16):
            for strip in (STRIP, BEATS, (5,) * 7, (0,) * 63 + (1,), (BIG,)):
                one = Register.least_for(base, strip)
                self.assertIs(type(one), Register)
                self.assertEqual(one.form_now, next_exact((base, 1), strip))
                self.assertEqual(Register.least_for(base=base, strip=strip), one)
        self.assertEqual(Register.least_for(2, BEATS).form_now, (2, 4))

    def test_refusals(self):
        check_refusals(self, Register, {"base": 2, "least": 4}, {"base": NO_REGISTER_BASE, "least": NO_LEAST})
        check_refusals(
            self, Register.least_for, {"base": 2, "strip": (0,) * 5}, {"base": NO_REGISTER_BASE, "strip": NO_STRIP})
        for one in (Register(2, 4), Ready(2, 4, TABLE)):
            for strip in TOO_LONG:
                self.assertEqual(refused_word(one, strip, None), "strip")
            for letter in NO_NUMBER + (3, BIG):
                self.assertEqual(refused_word(one, STRIP, letter), "letter")
            check_refusals(self, one.exact, {"strip": STRIP}, {"strip": TOO_LONG})
            check_refusals(self, one.wider, {"strip": (0,) * 5}, {"strip": NO_STRIP})
            check_refusals(
                self, one.write_all, {"strips": (STRIP, BEATS), "text": (2, 0)},
                {"strips": NO_STRIPS, "text": NO_TEXT})
            check_refusals(
                self, one.read_all, {"strips": (STRIP,), "digits": (0, 0, 1, 1, 1)},
                {"strips": NO_STRIPS, "digits": NO_DIGITS})


class ReadyTest(unittest.TestCase):
    def test_texts(self):
        for base, least, table in (
            (2, 4, TABLE), (2, 4, (1,)), (2, 6, (0, 3)), (16, 64, (8,) * 8), (2, 4096, (0, 64)), (2, 65, (63, 1)),
        ):
            letters = [letter for letter, count in enumerate(table) if count]
            for one in (Ready(base, least, table), MyReady(base=base, least=least, table=table)):
                self.assertEqual((one.form_now, one.table_now), ((base, least), table))
                self.assertEqual(one.strip_now, strip_of(table))
                for many in (0, 1, 5):
                    text = tuple(letters[(at * at) % len(letters)] for at in range(many))
                    digits = one.written(text)
                    self.assertEqual(digits, write_text((base, least), (strip_of(table),) * many, text))
                    self.assertEqual(one.text_in(many, digits), text)
                    self.assertEqual(one.text_in(many=many, digits=one.written(text=text)), text)
        self.assertTrue(issubclass(Ready, Register))

    def test_unread(self):
        one = Ready(2, 4, TABLE)
        for many, digits, why in ((1, (0, 1), "short"), (1, (1, 1, 0), "state"), (9, (0, 1, 1), "dry"),
                                  (0, (1, 0, 1), "end"), (2, (0, 0, 1, 1, 1), "dry")):
            with self.assertRaises(Unread) as caught:
                one.text_in(many, digits)
            self.assertEqual(caught.exception.why, why)

    def test_refusals(self):
        # too long for the register, not exact for it, far too long
        unfit = NO_TABLE + ((5,), (2, 1, 2), (1, 1, 1), (1, 2), (BIG, 1), (999,) * 8)
        check_refusals(
            self, Ready, {"base": 2, "least": 4, "table": TABLE},
            {"base": NO_REGISTER_BASE, "least": NO_LEAST, "table": unfit})
        one = Ready(2, 4, (2, 0, 2))
        check_refusals(self, one.written, {"text": (2, 0)}, {"text": NO_ROW + ((1,), (0, 3), (BIG,), (True,))})
        check_refusals(
            self, one.text_in, {"many": 1, "digits": one.written((2,))}, {"many": NO_NUMBER, "digits": NO_DIGITS})


if __name__ == "__main__":
    unittest.main()
