import itertools
import unittest

from pushedback.checks import pop_check
from pushedback.framing import frames_in, stream_of
from pushedback.gates import Checked, Gate
from tests import streams_by_hand
from tests.refusals import NO_ROW, check_refusals, refused_word
from tests.test_checks import NO_MODULUS, NO_STREAM_BASE

BIG = 10 ** 59 + 7
NO_DIGITS = NO_ROW + ((4,), (3, True), (0, BIG), [3, 0])


class Mine(Gate):
    pass


class MyChecked(Checked):
    pass


class ByHand:
    """A gate that keeps all scraps and looks at them anew for each question."""

    def __init__(self, base):
        self.base = base
        self.scraps = [()]

    def frames(self):
        return tuple(stack for scrap in self.scraps for stack in streams_by_hand.frames_in(self.base, scrap))

    def waiting(self):
        scrap = self.scraps[-1]
        if self.base - 1 not in scrap:
            return None
        return scrap[len(scrap) - scrap[::-1].index(self.base - 1):]

    def whole(self):
        scrap = self.scraps[-1]
        return scrap != () and scrap[0] == scrap[-1] == self.base - 1


def all_cuts(row):
    """The row in parts, cut in all ways, and some empty parts put in."""
    for bits in itertools.product((False, True), repeat=max(len(row) - 1, 0)):
        parts = [()]
        for at, digit in enumerate(row):
            if at and bits[at - 1]:
                parts.append(())
            parts[-1] += (digit,)
        yield parts
    yield [(), row, ()]


class GateTest(unittest.TestCase):
    def check(self, gate, hand):
        self.assertEqual(gate.waiting_now, hand.waiting())
        self.assertIs(gate.whole_now, hand.whole())
        self.assertEqual(gate.frames_now, hand.frames())
        self.assertIs(type(gate.frames_now), tuple)

    def test_all_short_streams(self):
        for base, many in ((3, 6), (4, 4)):
            for row in itertools.product(range(base), repeat=many):
                for parts in itertools.islice(all_cuts(row), 0, None, 3):
                    gate, hand = Gate(base), ByHand(base)
                    self.check(gate, hand)
                    for part in parts:
                        before = hand.frames()
                        hand.scraps[-1] += part
                        told = gate.feed(part)
                        self.assertIs(type(told), tuple)
                        self.assertEqual(told, hand.frames()[len(before):])
                        self.check(gate, hand)
                    self.assertEqual(list(gate.frames_now), frames_in(base, row))

    def test_gaps(self):
        row = (3, 0, 3, 3, 1, 2, 3, 0)
        for base in (4,):
            for gaps in itertools.chain.from_iterable(itertools.combinations(range(len(row) + 1), few) for few in range(4)):
                gate, hand = Mine(base), ByHand(base)
                for at in range(len(row) + 1):
                    for _ in range(gaps.count(at) * (1 + at % 2)):
                        self.assertEqual(gate.gap(), hand.waiting())
                        hand.scraps.append(())
                        self.check(gate, hand)
                        self.assertIsNone(gate.waiting_now)
                    if at < len(row):
                        hand.scraps[-1] += row[at:at + 1]
                        gate.feed(digits=row[at:at + 1])
                        self.check(gate, hand)

    def test_scraps(self):
        stream = stream_of(4, (5, 0, 7, 300, 0, 0, 12))
        scraps = (stream[:4], stream[4:9], (), stream[11:17], stream[17:], (3,), (1, 2))
        for wide in (1, 2, 3, 20):
            gate = Gate(base=4)
            told = ()
            for scrap in scraps:
                for at in range(0, len(scrap), wide):
                    told += gate.feed(scrap[at:at + wide])
                gate.gap()
            self.assertEqual(told, tuple(frame for scrap in scraps for frame in frames_in(4, scrap)))
            self.assertEqual(gate.frames_now, told)

    def test_states(self):
        gate = Gate(3)
        self.assertEqual((gate.frames_now, gate.waiting_now, gate.whole_now), ((), None, False))
        # no digits at all change nothing, at the beginning and behind a gap
        self.assertEqual((gate.feed(()), gate.waiting_now, gate.whole_now), ((), None, False))
        self.assertEqual((gate.gap(), gate.feed(()), gate.feed((2,)), gate.whole_now), (None, (), (), True))
        self.assertEqual((gate.gap(), gate.waiting_now), ((), None))
        # digits ahead of the first mark wait for nothing
        self.assertEqual((gate.feed((1, 0)), gate.waiting_now, gate.whole_now), ((), None, False))
        self.assertEqual((gate.feed((2,)), gate.waiting_now, gate.whole_now), ((), (), False))
        self.assertEqual((gate.gap(), gate.waiting_now, gate.whole_now), ((), None, False))
        # one mark alone is whole
        self.assertEqual((gate.feed((2,)), gate.waiting_now, gate.whole_now), ((), (), True))
        self.assertEqual((gate.feed(()), gate.whole_now), ((), True))
        self.assertEqual((gate.feed((2,)), gate.whole_now, gate.frames_now), ((0,), True, (0,)))
        self.assertEqual((gate.feed((0, 1)), gate.waiting_now, gate.whole_now), ((), (0, 1), False))
        self.assertEqual((gate.gap(), gate.gap(), gate.frames_now), ((0, 1), None, (0,)))
        self.assertEqual((gate.feed((1, 2, 0)), gate.waiting_now), ((), (0,)))
        self.assertEqual((gate.feed((1, 2, 2, 1)), gate.frames_now), ((4, 0), (0, 4, 0)))

    def test_objects_apart(self):
        one, other = Gate(3), Gate(3)
        one.feed((2, 1, 2))
        self.assertEqual((other.frames_now, other.waiting_now, other.whole_now), ((), None, False))

    def test_refusals(self):
        for maker in (Gate, Mine):
            check_refusals(self, maker, {"base": 4}, {"base": NO_STREAM_BASE})
        for gate in (Gate(4), Checked(4, 5), MyChecked(4, 5)):
            gate.feed((3, 0))
            for digits in NO_DIGITS:
                self.assertEqual(refused_word(gate.feed, digits), "digits")
                self.assertEqual(refused_word(gate.feed, digits=digits), "digits")
            # nothing has changed
            self.assertEqual((gate.waiting_now, gate.frames_now, gate.whole_now), ((0,), (), False))
            self.assertEqual(gate.feed((3,)), (1,) if type(gate) is Gate else ())


class CheckedTest(unittest.TestCase):
    def test_frames(self):
        for maker in (Checked, MyChecked):
            for base, modulus in ((4, 5), (3, 2), (256, 3), (10, 293)):
                stacks = (5 * modulus, 0, 7, modulus - 1, modulus, 300 * modulus, BIG * modulus, BIG * modulus + 1, 1)
                stream = stream_of(base, stacks)
                for wide in (1, 3, len(stream)):
                    gate, plain = maker(base=base, modulus=modulus), Gate(base)
                    for at in range(0, len(stream), wide):
                        frames = plain.feed(stream[at:at + wide])
                        told = gate.feed(digits=stream[at:at + wide])
                        self.assertIs(type(told), tuple)
                        self.assertEqual(told, tuple(
                            pop_check(frame, modulus) for frame in frames if frame % modulus == 0))
                        self.assertEqual((gate.waiting_now, gate.whole_now), (plain.waiting_now, plain.whole_now))
                        all_frames = plain.frames_now
                        self.assertEqual(
                            gate.frames_now, tuple(frame // modulus for frame in all_frames if frame % modulus == 0))
                        self.assertEqual(gate.spoilt_now, tuple(frame for frame in all_frames if frame % modulus))
                        self.assertIs(type(gate.spoilt_now), tuple)
        self.assertTrue(issubclass(Checked, Gate))
        # the modulus need not be above the base
        self.assertEqual(Checked(256, 2).feed((255, 5, 255, 4, 255)), (3,))

    def test_gaps(self):
        gate = Checked(4, 5)
        self.assertEqual(gate.spoilt_now, ())
        self.assertEqual(gate.feed((3, 1, 0)), ())
        self.assertEqual((gate.gap(), gate.waiting_now), ((1, 0), None))
        self.assertEqual(gate.feed((1, 3, 3, 0, 0, 3, 1, 0, 3)), (0,))
        self.assertEqual((gate.frames_now, gate.spoilt_now), ((0,), (4, 7)))

    def test_refusals(self):
        for maker in (Checked, MyChecked):
            check_refusals(self, maker, {"base": 4, "modulus": 5}, {"base": NO_STREAM_BASE, "modulus": NO_MODULUS})


if __name__ == "__main__":
    unittest.main()
