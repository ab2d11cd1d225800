import itertools
import unittest

from pushedback.framing import frames_in, shortest_loss, starts_of, stream_of
from tests import streams_by_hand
from tests.refusals import NO_POSITIVE, NO_ROW, NO_TUPLE, check_refusals, refused_word
from tests.test_checks import NO_STREAM_BASE

BIG = 10 ** 59 + 7
STACKS = (
    (), (0,), (5, 0, 7), (0, 0, 0), (1, 2, 3, 4, 5), (BIG,), (BIG, 0, BIG, 3), tuple(range(40)), (0, 0, 1000, 0, 0, 1),
)
BASES = (3, 4, 7, 256)
NO_STREAM = NO_ROW + ((), (0,), (0, 3), (3, 0), (3, 4, 3), (3, True, 3), (0, 3, 0), (3, 0, 3, 1), (3, BIG, 3))


class FramingTest(unittest.TestCase):
    def test_streams(self):
        for base in BASES:
            for stacks in STACKS:
                stream = stream_of(base, stacks)
                self.assertIs(type(stream), tuple)
                self.assertEqual(stream, streams_by_hand.stream_of(base, stacks))
                told = frames_in(base, stream)
                self.assertIs(type(told), list)
                self.assertEqual(told, list(stacks))
                marks = tuple(at for at, digit in enumerate(stream) if digit == base - 1)
                self.assertEqual(starts_of(base, stream), marks)
                self.assertEqual(len(marks), len(stacks) + 1)
                self.assertEqual(stream[0], base - 1)
                for begin, end, stack in zip(marks, marks[1:], stacks):
                    self.assertEqual(stream[begin + 1:end], streams_by_hand.row_of(base - 1, stack))
        self.assertEqual(stream_of(base=4, stacks=(5, 0, 7)), (3, 0, 1, 3, 3, 1, 0, 3))
        self.assertEqual(starts_of(base=4, stream=(3, 0, 1, 3, 3, 1, 0, 3)), (0, 3, 4, 7))
        # the empty stream is one mark
        self.assertEqual(stream_of(256, ()), (255,))
        self.assertEqual(starts_of(256, (255,)), (0,))
        self.assertEqual(frames_in(256, (255,)), [])

    def test_scraps(self):
        for base in (3, 4):
            for many in range(7):
                for scrap in itertools.product(range(base), repeat=many):
                    self.assertEqual(frames_in(base, scrap), streams_by_hand.frames_in(base, scrap))
        self.assertEqual(frames_in(base=4, scrap=(1, 3, 3, 1, 0, 3, 2)), [0, 7])
        for scrap in ((), (0, 1, 2), (3,), (0, 3, 1), (3, 1, 1), (1, 1, 3)):
            self.assertEqual(frames_in(4, scrap), [])

    def test_whole_frames_are_read(self):
        stacks = (5, 0, 7, 300, 0, 0, 12)
        stream = stream_of(4, stacks)
        marks = starts_of(4, stream)
        for begin in range(len(stream)):
            for end in range(begin, len(stream) + 1):
                whole = [stack for stack, first, last in zip(stacks, marks, marks[1:]) if begin <= first and last < end]
                self.assertEqual(frames_in(4, stream[begin:end]), whole)

    def test_losses(self):
        for base in (3, 5):
            for stacks in STACKS[:5] + ((0, 0, 1000, 0, 0, 1), (9, 9, 0, 9)):
                stream = stream_of(base, stacks)
                for many in range(1, len(stacks) + 1):
                    told = next(
                        wide for begin, wide in streams_by_hand.losses(stream)
                        if len(streams_by_hand.broken(base, stream, begin, wide)) >= many)
                    self.assertEqual(shortest_loss(base, stream, many), told, (base, stacks, many))
                # at least one frame, at most as many as there are; of the stream of one mark alone none
                for many in (0, len(stacks) + 1):
                    self.assertEqual(refused_word(shortest_loss, base, stream, many), "many")
        self.assertEqual(shortest_loss(base=4, stream=(3, 0, 1, 3, 3, 1, 0, 3), many=3), 2)
        # one mark between two frames breaks both, and each one digit of a stream with frames breaks one
        self.assertEqual([shortest_loss(4, (3, 0, 3, 1, 3), many) for many in (1, 2)], [1, 1])
        self.assertEqual([len(streams_by_hand.broken(4, (3, 3, 0, 3), at, 1)) for at in range(4)], [1, 2, 1, 1])
        self.assertEqual(streams_by_hand.broken(4, (3,), 0, 1), set())

    def test_refusals(self):
        check_refusals(
            self, stream_of, {"base": 4, "stacks": (5, 0)},
            {"base": NO_STREAM_BASE, "stacks": NO_ROW + ((5, True), [5, 0])})
        check_refusals(
            self, frames_in, {"base": 4, "scrap": (3, 0)},
            {"base": NO_STREAM_BASE, "scrap": NO_ROW + ((4,), (3, True), (BIG,))})
        check_refusals(self, starts_of, {"base": 4, "stream": (3, 0, 3)}, {"base": NO_STREAM_BASE, "stream": NO_STREAM})
        check_refusals(
            self, shortest_loss, {"base": 4, "stream": (3, 0, 3), "many": 1},
            {"base": NO_STREAM_BASE, "stream": NO_STREAM, "many": NO_POSITIVE + (2, BIG)})
        self.assertEqual(refused_word(stream_of, 4, NO_TUPLE[-1]), "stacks")


if __name__ == "__main__":
    unittest.main()
