import itertools
import unittest

from pushedback.errors import InvalidPaper, Unread
from pushedback.faultchecker import lets_fault
from pushedback.faultpapers import fault_paper
from pushedback.registercoder import read_letter, write_letter
from pushedback.stretches import is_exact
from tests import registers
from tests.refusals import NO_NUMBER, NO_ROW, NO_STRIP, check_refusals
from tests.registers import BIG, NO_REGISTER, small_cases

STRIP, BEATS = (0, 0, 1, 2), (0, 1, 0, 1)
TOO_LONG = NO_STRIP + ((0,) * 5, (0, 1, 2, 0, 1))
NO_STATE = NO_NUMBER + (0, 3, 8, BIG)
NO_HEAP = NO_ROW + ((2,), (0, 1, 2), (BIG,))


class RegistercoderTest(unittest.TestCase):
    def test_writing(self):
        for register, strip in small_cases():
            for letter in set(strip):
                for state in registers.states(register):
                    for heap in ((), (1, 0, 1)):
                        told = registers.written(register, strip, state, heap, letter)
                        self.assertEqual(write_letter(register, strip, state, heap, letter), told)

    def test_reading(self):
        for register, strip in small_cases():
            base = register[0]
            for state in registers.states(register):
                for many in range(4):
                    heap = ((1, 0, 1, 1), (base - 1, 0, base - 1, 0))[state % 2][:many]
                    told = registers.read(register, strip, state, heap)
                    if told is None:
                        with self.assertRaises(Unread) as caught:
                            read_letter(register, strip, state, heap)
                        self.assertEqual(caught.exception.why, "dry")
                    else:
                        self.assertEqual(read_letter(register, strip, state, heap), told)

    def test_what_is_written_is_read(self):
        for register, strip in small_cases():
            for letter, state in itertools.product(set(strip), registers.states(register)):
                left, heap = write_letter(register, strip, state, (1, 0), letter)
                if left in registers.states(register):
                    self.assertEqual(read_letter(register, strip, left, heap), (letter, state, (1, 0)))
                else:
                    self.assertFalse(is_exact(register, strip))

    def test_what_is_read_is_written(self):
        for register, strip in small_cases():
            if is_exact(register, strip):
                for state in registers.states(register):
                    letter, left, heap = read_letter(register, strip, state, (1, 0, 1, 1, 0, 1))
                    written = write_letter(register, strip, left, heap, letter)
                    self.assertEqual(written, (state, (1, 0, 1, 1, 0, 1)))

    def test_slipping(self):
        # by [8] the first value is then no state
        self.assertEqual(write_letter((2, 3), (0, 1), 3, (), 0), (2, (1,)))
        self.assertEqual(write_letter((2, 4), STRIP, 7, (1,), 1), (6, (1, 1, 1)))

    def test_refusals(self):
        check_refusals(
            self, write_letter, {"holder": (2, 4), "strip": STRIP, "state": 5, "heap": (1,), "letter": 2},
            {"holder": NO_REGISTER, "strip": TOO_LONG, "state": NO_STATE, "heap": NO_HEAP,
             "letter": NO_NUMBER + (3, BIG)})
        check_refusals(
            self, read_letter, {"holder": (2, 4), "strip": STRIP, "state": 5, "heap": (1, 1)},
            {"holder": NO_REGISTER, "strip": TOO_LONG, "state": NO_STATE, "heap": NO_HEAP})


class FaultsTest(unittest.TestCase):
    def entry(self, holder, strip, thing):
        with self.assertRaises(InvalidPaper) as caught:
            lets_fault(holder, strip, thing)
        return caught.exception.word, caught.exception.at

    def test_papers_are_accepted(self):
        for register, strip in small_cases():
            paper = fault_paper(register, strip)
            self.assertIs(type(paper), tuple)
            self.assertEqual(lets_fault(register, strip, paper), paper[0])
            self.assertEqual(paper == ("exact",), is_exact(register, strip))
            self.assertEqual(len(paper), 1 if paper[0] == "exact" else 3)
        self.assertEqual(fault_paper((2, 4096), (0,) * 63 + (1,)), ("exact",))

    def test_just_what_is_true_is_accepted(self):
        for register, strip in small_cases():
            if len(strip) < 3 and register[0] > 3:
                continue
            for letter in sorted(set(strip)):
                slips = registers.slipping(register, strip, letter)
                sticks = registers.sticking(register, strip, letter)
                for state in registers.states(register):
                    if state in slips:
                        self.assertEqual(lets_fault(register, strip, ("slips", letter, state)), "slips")
                    else:
                        self.assertEqual(self.entry(register, strip, ("slips", letter, state)), ("slips", 2))
                    paper = ("sticks", letter, state)
                    if state in sticks:
                        self.assertEqual(lets_fault(register, strip, paper), "sticks")
                    elif registers.popped(state, strip)[0] != letter:
                        self.assertEqual(self.entry(register, strip, paper), ("pops", 2))
                    else:
                        self.assertEqual(self.entry(register, strip, paper), ("sticks", 2))

    def test_shape(self):
        for thing in (None, True, 0, "exact", (), [], ["exact"], ("Exact",), (None,), (("exact",),), ("exact", 0),
                      ("exact", 0, 3), ("slips",), ("slips", 0), ("slips", 0, 3, 3), ["slips", 0, 3], ("sticks", 1),
                      ("sticks",), ("slip", 0, 3), (0, "slips", 3), (["slips"], 0, 3), ("", 0, 3), ("exact", "exact")):
            self.assertEqual(self.entry((2, 3), (0, 1), thing), ("shape", -1), thing)
            self.assertEqual(self.entry((2, 4), (0, 1), thing), ("shape", -1), thing)

    def test_entries(self):
        self.assertEqual(self.entry((2, 3), (0, 1), ("exact",)), ("exact", -1))
        for word in ("slips", "sticks"):
            for letter in NO_NUMBER + (2, BIG):
                self.assertEqual(self.entry((2, 3), (0, 1), (word, letter, 3)), ("letter", 1))
                self.assertEqual(self.entry((2, 3), (0, 1), (word, letter, None)), ("letter", 1))
            for state in NO_NUMBER + (0, 2, 6, BIG):
                self.assertEqual(self.entry((2, 3), (0, 1), (word, 1, state)), ("state", 2))
        self.assertEqual(self.entry((2, 3), (0, 1), ("slips", 1, 3)), ("slips", 2))
        self.assertEqual(self.entry((2, 3), (0, 1), ("sticks", 0, 4)), ("sticks", 2))
        self.assertEqual(self.entry((2, 3), (0, 1), ("sticks", 0, 3)), ("pops", 2))

    def test_refusals(self):
        check_refusals(
            self, fault_paper, {"holder": (2, 4), "strip": STRIP}, {"holder": NO_REGISTER, "strip": TOO_LONG})
        check_refusals(
            self, lets_fault, {"holder": (2, 4), "strip": STRIP, "thing": ("exact",)},
            {"holder": NO_REGISTER, "strip": TOO_LONG})


if __name__ == "__main__":
    unittest.main()
