import itertools
import unittest
from fractions import Fraction

from pushedback.bulks import bulk_bounds, bulk_of, heap_bounds
from pushedback.errors import Unread
from pushedback.registercoder import write_letter
from pushedback.severals import read_several, write_several
from pushedback.stretches import is_exact
from pushedback.streams import read_text, wide_of, write_text
from tests import registers
from tests.refusals import NO_NUMBER, NO_POSITIVE, NO_ROW, NO_STRIP, NO_TUPLE, check_refusals
from tests.registers import BIG, NO_REGISTER
from tests.trees import pair

STRIP, BEATS = (0, 0, 1, 2), (0, 1, 0, 1)
# registers with strips that are exact for them, also such whose size does not divide least
EXACT = (
    ((2, 4), (STRIP, BEATS, (0,), (3, 3), (1, 0))), ((2, 6), (BEATS, (0, 1, 2), (5, 4))), ((3, 4), (STRIP, BEATS)),
    ((10, 8), (STRIP, (0, 1, 2, 3, 4, 5, 6, 7))), ((16, 2), ((0, 1), (1,))), ((2, 65), ((0,) * 63 + (1,),)),
    ((3, 1), ((0,), (BIG,))), ((2, 4096), (STRIP, (0, 1) * 32)),
)
NO_DIGITS = NO_ROW + ((2,), (0, 1, 2), (BIG,))
NO_STRIPS = NO_TUPLE + (
    STRIP, (STRIP, None), (STRIP, ()), (STRIP, (True,)), (STRIP, (0,) * 5), (STRIP, (0, 1, 1)), ((0, 1, 0), STRIP),
    [STRIP, BEATS], (list(STRIP), BEATS),
)
# two strips, so texts of two letters
NO_TEXT = NO_ROW + ((), (1,), (1, 1, 1), (3, 1), (1, 2), (BIG, 1), (True, 1))


def texts(strips, many):
    """Some rows of so many of the strips, each with some texts."""
    rows = list(itertools.product(strips, repeat=many))
    for row in rows[::max(1, len(rows) // 7)]:
        every = list(itertools.product(*[sorted(set(strip)) for strip in row]))
        for text in every[::max(1, len(every) // 7)]:
            yield row, text


def written(register, many, strips, text):
    """The row by the definition: all letters from the last one on, each at the state of its turn."""
    base, least = register
    states, heap = [least] * many, ()
    for at in reversed(range(len(text))):
        turn = at % many
        states[turn], heap = registers.written(register, strips[at], states[turn], heap, text[at])
    wide = wide_by_hand(register)
    for state in reversed(states):
        heap += tuple(state // base ** place % base for place in range(wide))
    return heap


def wide_by_hand(register):
    base, least = register
    return min(wide for wide in range(20) if base ** wide >= base * least)


def why(function, *args):
    """Why the call reads no text."""
    try:
        function(*args)
    except Unread as error:
        return error.why
    return None


class StreamsTest(unittest.TestCase):
    def test_wide_of(self):
        for register in itertools.product(range(2, 17), (1, 2, 3, 4, 5, 16, 255, 256, 257, 4096)):
            self.assertEqual(wide_of(register), wide_by_hand(register))
        self.assertEqual([wide_of((2, 1)), wide_of((2, 4)), wide_of((2, 5)), wide_of((16, 4096))], [1, 3, 4, 4])
        check_refusals(self, wide_of, {"holder": (2, 4)}, {"holder": NO_REGISTER})

    def test_there_and_back(self):
        for register, strips in EXACT:
            self.assertTrue(all(is_exact(register, strip) for strip in strips))
            for many in range(4 if register[1] < 60 else 2):
                for row, text in texts(strips, many):
                    digits = write_text(register, row, text)
                    self.assertEqual(digits, written(register, 1, row, text))
                    self.assertEqual(read_text(register, row, digits), text)
                    for turns in (1, 2, 3, 5):
                        digits = write_several(register, turns, row, text)
                        self.assertEqual(digits, written(register, turns, row, text))
                        self.assertEqual(read_several(register, turns, row, digits), text)

    def test_long_texts(self):
        strips = (STRIP, BEATS) * 20
        text = (0, 1, 2, 0, 1, 1, 0, 0) * 5
        for turns in (1, 2, 7, 39, 40):
            digits = write_several((2, 4), turns, strips, text)
            self.assertEqual(digits, written((2, 4), turns, strips, text))
            self.assertEqual(read_several((2, 4), turns, strips, digits), text)
        self.assertEqual(write_text((2, 4), strips, text), write_several((2, 4), 1, strips, text))

    def test_no_letters_at_all(self):
        for register in ((2, 4), (2, 5), (10, 7), (16, 4096)):
            base, least = register
            wide = wide_by_hand(register)
            state = tuple(least // base ** place % base for place in range(wide))
            self.assertEqual(write_text(register, (), ()), state)
            self.assertEqual(read_text(register, (), state), ())
            self.assertEqual(write_several(register, 3, (), ()), state * 3)
            self.assertEqual(read_several(register, 3, (), state * 3), ())

    def test_rows_that_are_no_texts(self):
        self.assertEqual(why(read_text, (2, 4), (STRIP,), (0, 1)), "short")
        self.assertEqual(why(read_text, (2, 4), (), ()), "short")
        self.assertEqual(why(read_text, (2, 4), (STRIP,), (1, 1, 0)), "state")
        self.assertEqual(why(read_text, (2, 4), (STRIP,), (0, 1, 1)), "dry")
        self.assertEqual(why(read_text, (2, 4), (STRIP,), (0, 0, 0, 1, 1, 1)), "end")
        self.assertEqual(why(read_text, (2, 4), (STRIP,), (1, 0, 1, 1, 1)), "end")
        self.assertEqual(why(read_text, (2, 4), (), (1, 0, 1)), "end")
        self.assertEqual(why(read_text, (2, 4), (), (0, 0, 0, 1)), "end")
        self.assertEqual(why(read_several, (2, 4), 2, (STRIP,), (0, 0, 1, 0, 1)), "short")
        self.assertEqual(why(read_several, (2, 4), 2, (STRIP,), (1, 1, 0, 0, 0, 1)), "state")
        self.assertEqual(why(read_several, (2, 4), 2, (STRIP,), (0, 0, 1, 1, 1, 0)), "state")
        self.assertEqual(why(read_several, (2, 4), 2, (STRIP,), (0, 0, 1, 0, 1, 1)), "dry")
        self.assertEqual(why(read_several, (2, 4), 2, (STRIP,), (0, 0, 1, 0, 1, 0, 1, 1)), "end")
        self.assertEqual(why(read_several, (2, 4), 2, (STRIP,), (0, 0, 1, 0, 1, 1, 1, 1)), "end")
        self.assertEqual(read_several((2, 4), 2, (STRIP,), (0, 0, 0, 0, 1, 1, 1, 1)), (2,))

    def test_each_row_is_read_or_refused(self):
        for register, row in (((2, 4), (STRIP, BEATS)), ((2, 6), (BEATS, BEATS)), ((3, 2), ((0, 1), (1,), (0, 1)))):
            for many, turns in itertools.product(range(8), (1, 2)):
                for digits in itertools.product(range(register[0]), repeat=many):
                    reason = why(read_several, register, turns, row, digits)
                    if turns == 1:
                        self.assertEqual(why(read_text, register, row, digits), reason)
                    if reason is None:
                        text = read_several(register, turns, row, digits)
                        self.assertEqual(write_several(register, turns, row, text), digits)
                    else:
                        self.assertEqual(reason, self.reason_by_hand(register, turns, row, digits))

    def reason_by_hand(self, register, turns, row, digits):
        base, least = register
        wide = wide_by_hand(register)
        if len(digits) < turns * wide:
            return "short"
        states = []
        for turn in range(turns):
            part = digits[len(digits) - (turn + 1) * wide:len(digits) - turn * wide]
            states.append(sum(digit * base ** place for place, digit in enumerate(part)))
        if any(state not in registers.states(register) for state in states):
            return "state"
        heap = digits[:len(digits) - turns * wide]
        for at, strip in enumerate(row):
            told = registers.read(register, strip, states[at % turns], heap)
            if told is None:
                return "dry"
            _, states[at % turns], heap = told
        return "end" if heap or set(states) != {least} else None

    def test_refusals(self):
        good = {"holder": (2, 4), "strips": (STRIP, BEATS), "text": (2, 0)}
        wrong = {"holder": NO_REGISTER, "strips": NO_STRIPS, "text": NO_TEXT}
        check_refusals(self, write_text, good, wrong)
        check_refusals(
            self, read_text, {"holder": (2, 4), "strips": (STRIP,), "digits": (0, 0, 1, 1, 1)},
            {"holder": NO_REGISTER, "strips": NO_STRIPS, "digits": NO_DIGITS})
        check_refusals(
            self, write_several, {"holder": (2, 4), "many": 2, "strips": (STRIP, BEATS), "text": (2, 0)},
            {"holder": NO_REGISTER, "many": NO_POSITIVE, "strips": NO_STRIPS, "text": NO_TEXT})
        check_refusals(
            self, read_several, {"holder": (2, 4), "many": 1, "strips": (STRIP,), "digits": (0, 0, 1, 1, 1)},
            {"holder": NO_REGISTER, "many": NO_POSITIVE, "strips": NO_STRIPS, "digits": NO_DIGITS})


class BulksTest(unittest.TestCase):
    def test_bulk_of(self):
        self.assertEqual(bulk_of((2, 4), 5, (0, 0, 1)), 40)
        self.assertEqual(bulk_of((16, 4096), 65535, ()), 65535)
        self.assertEqual(bulk_of((10, 1), 9, (9,) * 800), 9 * 10 ** 800)
        check_refusals(
            self, bulk_of, {"holder": (2, 4), "state": 5, "heap": (1,)},
            {"holder": NO_REGISTER, "state": NO_NUMBER + (0, 3, 8), "heap": NO_DIGITS})

    def divided(self):
        for base, least in ((2, 4), (2, 6), (3, 12), (10, 8), (16, 2), (2, 64)):
            for size in range(1, 5):
                if least % size == 0:
                    for strip in itertools.product(range(2), repeat=size):
                        yield (base, least), strip

    def test_bounds(self):
        for register, strip in self.divided():
            size, least = len(strip), register[1]
            for letter in set(strip):
                count = strip.count(letter)
                low = Fraction(size * (count * least - (size - count) * (count - 1)), count * (count * least + size))
                high = Fraction(size * (least + size - count), count * least)
                self.assertEqual(bulk_bounds(register, strip, letter), (pair(low), pair(high)))
                for state in registers.states(register):
                    before = bulk_of(register, state, (1,))
                    after = bulk_of(register, *write_letter(register, strip, state, (1,), letter))
                    self.assertTrue(low < Fraction(after, before) <= high)

    def test_heap_bounds(self):
        for register, strips in EXACT:
            strips = [strip for strip in strips if register[1] % len(strip) == 0]
            for many in range(4 if register[1] < 60 else 2):
                for row, text in texts(strips, many):
                    low = high = Fraction(1)
                    for strip, letter in zip(row, text):
                        bounds = bulk_bounds(register, strip, letter)
                        low, high = low * Fraction(*bounds[0]), high * Fraction(*bounds[1])
                    base = register[0]
                    least = min(n for n in range(200) if base ** (n + 1) > low)
                    most = max(n for n in range(200) if base ** n <= high)
                    self.assertEqual(heap_bounds(register, row, text), (least, most))
                    besides = len(write_text(register, row, text)) - wide_of(register)
                    self.assertTrue(least <= besides <= most)
        self.assertEqual(heap_bounds((2, 4), (), ()), (0, 0))
        # a low bound below 1, and bounds that are just a power of the base
        self.assertEqual(bulk_bounds((2, 4), (0, 0, 0, 0), 0), ((4, 5), (1, 1)))
        self.assertEqual(heap_bounds((2, 4), ((0, 0, 0, 0),), (0,)), (0, 0))
        self.assertEqual(bulk_bounds((2, 4), (0, 1, 2, 3), 0), ((2, 1), (7, 1)))
        self.assertEqual(heap_bounds((2, 4), ((0, 1, 2, 3),), (0,)), (1, 2))
        self.assertEqual(bulk_bounds((3, 5), (0, 1, 2, 3, 4), 4), ((5, 2), (9, 1)))
        self.assertEqual(heap_bounds((3, 5), ((0, 1, 2, 3, 4),), (4,)), (0, 2))
        self.assertEqual(heap_bounds((2, 4), ((0, 1), (0, 1)), (0, 1)), (0, 2))

    def test_refusals(self):
        undivided = NO_STRIP + ((0, 0, 1), (0, 1, 2), (0,) * 5, (0,) * 8)
        check_refusals(
            self, bulk_bounds, {"holder": (2, 4), "strip": STRIP, "letter": 2},
            {"holder": NO_REGISTER, "strip": undivided, "letter": NO_NUMBER + (3, BIG)})
        # for (2, 6) a strip of four letters is exact, but its size does not divide 6
        check_refusals(
            self, heap_bounds, {"holder": (2, 6), "strips": ((0, 1, 2), (0, 1)), "text": (2, 0)},
            {"holder": NO_REGISTER, "strips": NO_TUPLE + ((BEATS, BEATS), ((0, 1), BEATS), ((0,) * 12,), (None,)),
             "text": NO_TEXT})


if __name__ == "__main__":
    unittest.main()
