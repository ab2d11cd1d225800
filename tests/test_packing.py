import itertools
import unittest

from pushedback.errors import NotUsable, Unmended
from pushedback.framing import frames_in, stream_of
from pushedback.mending import can_mend, pieces_of, told_blocks
from pushedback.packing import (
    blocks_of, is_setup, packed, pieces_in, shortest_break, stack_of_blocks, unpacked,
)
from pushedback.schemecoder import push_thing
from pushedback.things import things_of
from pushedback.wholes import received, sent
from tests import streams_by_hand
from tests.fieldsums import NO_PLAN, NO_SIZE, PLAN, PLANS
from tests.refusals import NO_NUMBER, NO_POSITIVE, NO_TUPLE, check_refusals, refused_word
from tests.schemes import EITHER, NO_SCHEME, SCHEMES
from tests.test_checks import NO_MODULUS, NO_STREAM_BASE
from tests.test_fields import NO_BLOCKS

BIG = 10 ** 59 + 7
SETUP = (4, 5, 5, PLAN)
SETUPS = tuple((base, modulus, size, plan) for (size, plan), (base, modulus) in zip(
    PLANS, itertools.cycle(((4, 5), (3, 5), (10, 293), (256, 257), (16, 17)))))
NO_SETUP = (
    None, True, 0, "", (), [], [4, 5, 5, PLAN], (4, 5, 5), (4, 5, 5, PLAN, 0), (4, 3, 5, PLAN), (5, 5, 5, PLAN),
    (257, 263, 5, PLAN), (4, 5, 5, ()), (4, 5, 4, PLAN), (4, 5, 2, PLAN), (4, 5, 5, list(PLAN)), (True, 5, 5, PLAN),
    (4, 9, 5, PLAN), (4, None, 5, PLAN), (2, 5, 5, PLAN), (4, 307, 5, PLAN), (256, 251, 5, PLAN), (PLAN, 5, 5, 4),
)
NO_SCRAPS = NO_TUPLE + ((0, 1), ((4,),), ((3, True),), ((0,), None), ([3],), ((0, -1),), ("3",), (((3,),),), ((BIG,),))
NO_STREAM = ((), (3, 3), (3,) * 3, (3,) * 5, (0, 3, 3, 3), (3, 0, 3, 3, 0), (3, 4, 3, 3, 3), [3, 3, 3, 3], None, 3, "3333")


def scrapped(stream, begin, many):
    """The scraps that a loss leaves."""
    return stream[:begin], stream[begin + many:]


class BlocksTest(unittest.TestCase):
    def test_blocks(self):
        for size, many, wide in ((2, 1, 600), (2, 2, 400), (2, 3, 700), (3, 2, 900), (5, 2, 700), (7, 1, 400), (16, 2, 300)):
            for number, blocks in enumerate(itertools.islice(streams_by_hand.blocks_in_order(size, many), wide)):
                told = blocks_of(size, many, number)
                self.assertTrue(type(told) is tuple and all(type(row) is tuple for row in told))
                self.assertEqual(told, blocks)
                self.assertEqual(stack_of_blocks(size, blocks), number)
        for size, many in ((2, 8), (256, 8), (256, 1), (5, 2)):
            for stack in (BIG, 10 ** 500 + 3, 10 ** 999):
                told = blocks_of(size, many, stack)
                self.assertEqual(streams_by_hand.number_of_blocks(size, told), stack)
                self.assertEqual(stack_of_blocks(size, told), stack)
        self.assertEqual(blocks_of(5, 2, 17), ((3,), (1,)))
        self.assertEqual(blocks_of(size=5, many=2, stack=0), ((), ()))
        self.assertEqual(stack_of_blocks(size=5, blocks=((0, 0), (0, 0))), 26)

    def test_refusals(self):
        check_refusals(
            self, blocks_of, {"size": 5, "many": 2, "stack": 17},
            {"size": NO_SIZE, "many": NO_POSITIVE, "stack": NO_NUMBER})
        no_blocks = [one for one in NO_BLOCKS if one not in (((1, 2),), ((1, 2), (3, 4), (0, 0)))]
        check_refusals(self, stack_of_blocks, {"size": 5, "blocks": ((1,), (3,))}, {"size": NO_SIZE, "blocks": no_blocks})


class PackingTest(unittest.TestCase):
    def outcome(self, setup, scraps):
        """The stack that is unpacked, or what is raised."""
        try:
            return unpacked(setup, scraps)
        except NotUsable as error:
            return error.word, error.at
        except Unmended as error:
            return "untold", error.untold

    def by_hand(self, setup, scraps):
        """What unpacked gives or raises, by all blocks of the width of the first piece that counts."""
        size, plan = setup[2:]
        counting = {}
        wide = None
        for place, piece in self.pieces_by_hand(setup, scraps):
            wide = len(piece) if wide is None else wide
            if len(piece) == wide and place not in counting:
                counting[place] = piece
        rows = list(itertools.product(range(size), repeat=wide or 0))
        fitting = [
            blocks for blocks in itertools.product(rows, repeat=len(plan[0]))
            if all(pieces_of(size, plan, blocks)[place] == piece for place, piece in counting.items())]
        if not fitting:
            return "scraps", -1
        kept = tuple(sorted(counting))
        if not can_mend(size, plan, kept):
            told = told_blocks(size, plan, kept)
            return "untold", tuple(at for at in range(len(plan[0])) if at not in told)
        self.assertEqual(len(fitting), 1)
        return streams_by_hand.number_of_blocks(size, fitting[0])

    def pieces_by_hand(self, setup, scraps):
        base, modulus, size, plan = setup
        stacks = [stack for scrap in scraps for stack in streams_by_hand.frames_in(base, scrap)]
        stacks = [stack // modulus for stack in stacks if stack % modulus == 0]
        return [(stack % len(plan), streams_by_hand.row_of(size, stack // len(plan))) for stack in stacks]

    def test_is_setup(self):
        for setup in SETUPS + (SETUP, (3, 293, 2, ((1,),)), (256, 257, 256, ((255,),))):
            self.assertIs(is_setup(setup), True, setup)
        for thing in NO_SETUP:
            self.assertIs(is_setup(thing), False, thing)
        for base in NO_STREAM_BASE:
            self.assertIs(is_setup((base, 5, 5, PLAN)), False)
        for modulus in NO_MODULUS + (2, 3):
            self.assertIs(is_setup((4, modulus, 5, PLAN)), False)
        for size in NO_SIZE:
            self.assertIs(is_setup((4, 5, size, PLAN)), False)
        for plan in NO_PLAN:
            self.assertIs(is_setup((4, 5, 5, plan)), False)
        self.assertIs(is_setup(thing=SETUP), True)

    def test_packed(self):
        for setup in SETUPS:
            base, modulus, size, plan = setup
            for stack in (0, 1, 2, 17, 100, 1000, BIG):
                stream = packed(setup, stack)
                self.assertIs(type(stream), tuple)
                blocks = blocks_of(size, len(plan[0]), stack)
                frames = streams_by_hand.frames_of(setup, blocks)
                self.assertEqual(stream, streams_by_hand.stream_of(base, frames))
                told = pieces_in(setup, (stream,))
                self.assertIs(type(told), list)
                self.assertEqual(told, list(enumerate(pieces_of(size, plan, blocks))))
                whole = tuple(range(len(plan)))
                if can_mend(size, plan, whole):
                    self.assertEqual(unpacked(setup, (stream,)), stack)
                else:
                    told = told_blocks(size, plan, whole)
                    untold = tuple(at for at in range(len(plan[0])) if at not in told)
                    self.assertEqual(self.outcome(setup, (stream,)), ("untold", untold))
        self.assertEqual(packed(SETUP, 17), (3, 0, 2, 0, 2, 3, 1, 1, 1, 1, 3, 1, 1, 0, 3))
        self.assertEqual(packed(setup=SETUP, stack=17), packed(SETUP, 17))

    def test_losses(self):
        for setup in (SETUP, SETUPS[3], SETUPS[4], SETUPS[5]):
            base, modulus, size, plan = setup
            for stack in (0, 17, 5000):
                stream = packed(setup, stack)
                frames = len(plan)
                shortest = shortest_break(setup, stream)
                for begin, many in streams_by_hand.losses(stream):
                    broken = streams_by_hand.broken(base, stream, begin, many)
                    kept = tuple(at for at in range(frames) if at not in broken)
                    outcome = self.outcome(setup, scrapped(stream, begin, many))
                    if can_mend(size, plan, kept):
                        self.assertEqual(outcome, stack)
                    else:
                        self.assertEqual(outcome[0], "untold")
                        self.assertGreaterEqual(many, shortest)

    def test_shortest_break(self):
        for setup in SETUPS + ((4, 5, 5, PLAN + ((1, 3), (1, 4))),):
            base, modulus, size, plan = setup
            for stacks in ((0,) * len(plan), tuple(range(len(plan))), (30, 0, 2, 9, 80, 4, 0)[:len(plan)]):
                stream = stream_of(base, stacks)
                told = 0
                if can_mend(size, plan, tuple(range(len(plan)))):
                    told = next(
                        many for begin, many in streams_by_hand.losses(stream)
                        if not can_mend(size, plan, tuple(
                            at for at in range(len(plan))
                            if at not in streams_by_hand.broken(base, stream, begin, many))))
                self.assertEqual(shortest_break(setup, stream), told, (setup, stacks))
        # two frames broken by the mark between them
        self.assertEqual(shortest_break(setup=SETUP, stream=packed(SETUP, 17)), 1)
        # a plan that cannot mend at all
        self.assertEqual(shortest_break((4, 5, 5, ((1, 0), (2, 0))), (3, 3, 3)), 0)
        self.assertEqual(shortest_break((4, 5, 5, ((3,),)), (3, 1, 1, 3)), 1)

    def test_scraps(self):
        stream = packed(SETUP, 17)
        one, two, three = stream[:6], stream[5:11], stream[10:]
        for scraps in (
            (), ((),), (one,), (two,), (three,), (one, two), (two, one), (three, one), (one, one), (one + two[1:],),
            (one, two, three), (three, two, one), (one[1:], two), (one[:-1], two, three), (stream[:8], stream[9:]),
            ((0, 1) + two, (), three + (2, 2)), (one[:2] + one[3:], two, three), ((3, 3), one, three), ((3, 3, 3, 3),),
        ):
            self.assertEqual(pieces_in(SETUP, scraps), self.pieces_by_hand(SETUP, scraps))
            self.assertEqual(self.outcome(SETUP, scraps), self.by_hand(SETUP, scraps), scraps)
        self.assertEqual(self.outcome(SETUP, ()), ("untold", (0, 1)))
        self.assertEqual(pieces_in(setup=SETUP, scraps=(two, one)), [(1, (4,)), (0, (3,))])

    def test_pieces_told_twice(self):
        def scrap(*pieces):
            return streams_by_hand.stream_of(
                4, [5 * (3 * streams_by_hand.stack_of(5, piece) + place) for place, piece in pieces])

        zero, one, two = (0, (3,)), (1, (4,)), (2, (0,))
        for pieces in (
            # told twice alike, and otherwise: the first one counts
            (zero, zero, one), (zero, (0, (4,)), one), ((0, (4,)), zero, one), (zero, one, (1, (0,)), two),
            # of another width than the first that counts
            (zero, (1, (4, 4)), one), ((0, ()), zero, one), ((1, (4, 4)), zero, one), (zero, (1, ()), two),
            ((0, (3, 3)), (1, (4, 4)), zero, one), ((1, ()), (2, ()), zero), (zero, (1, (4, 4))),
            # pieces that no blocks have
            (zero, one, (2, (1,))), ((2, (1,)), one, zero), (zero, one, (2, (1,)), two), (one, (2, (3,))),
        ):
            for scraps in ((scrap(*pieces),), tuple(scrap(piece) for piece in pieces)):
                self.assertEqual(self.outcome(SETUP, scraps), self.by_hand(SETUP, scraps), pieces)
        self.assertEqual(self.outcome(SETUP, (scrap(zero, one, (2, (1,))),)), ("scraps", -1))
        self.assertEqual(unpacked(setup=SETUP, scraps=(scrap(zero, (0, (4,)), one),)), 17)
        # ahead of Unmended
        setup = (4, 5, 5, ((1, 0), (2, 0), (3, 0)))
        frames = [5 * (3 * streams_by_hand.stack_of(5, (1,)) + place) for place in (0, 1)]
        self.assertEqual(self.outcome(setup, (streams_by_hand.stream_of(4, frames),)), ("scraps", -1))

    def test_spoilt_frames(self):
        stream = packed(SETUP, 17)
        for at in range(len(stream)):
            for digit in range(4):
                changed = stream[:at] + (digit,) + stream[at + 1:]
                self.assertEqual(pieces_in(SETUP, (changed,)), self.pieces_by_hand(SETUP, (changed,)))
                self.assertEqual(self.outcome(SETUP, (changed,)), self.by_hand(SETUP, (changed,)))
                if digit != stream[at] and 3 not in (digit, stream[at]):
                    # one digit changed in a body spoils its frame
                    self.assertEqual(len(pieces_in(SETUP, (changed,))), 2)
                    self.assertEqual(unpacked(SETUP, (changed,)), 17)

    def test_all_scraps_of_a_small_setup(self):
        setup = (3, 5, 2, ((1, 0), (1, 1), (0, 1)))
        for stack in (0, 3, 9):
            stream = packed(setup, stack)
            for begin, many in streams_by_hand.losses(stream):
                scraps = scrapped(stream, begin, many)
                self.assertEqual(self.outcome(setup, scraps), self.by_hand(setup, scraps))

    def test_refusals(self):
        check_refusals(self, packed, {"setup": SETUP, "stack": 17}, {"setup": NO_SETUP, "stack": NO_NUMBER})
        for function in (pieces_in, unpacked):
            check_refusals(
                self, function, {"setup": SETUP, "scraps": (packed(SETUP, 17), ())},
                {"setup": NO_SETUP, "scraps": NO_SCRAPS})
        check_refusals(
            self, shortest_break, {"setup": SETUP, "stream": packed(SETUP, 17)},
            {"setup": NO_SETUP, "stream": NO_STREAM})


class WholesTest(unittest.TestCase):
    def test_sent(self):
        for setup in (SETUP, (256, 257, 256, ((1, 0, 0), (0, 1, 0), (0, 0, 1), (7, 8, 9))), (3, 5, 2, ((1,), (1,)))):
            for scheme in SCHEMES:
                for thing in things_of(scheme)[:2]:
                    for ground in (0, 7, BIG):
                        stream = sent(setup, scheme, ground, thing)
                        self.assertEqual(stream, packed(setup, push_thing(ground, scheme, thing)))
                        told = received(setup, scheme, (stream,))
                        self.assertIs(type(told), tuple)
                        self.assertEqual(told, (thing, ground))
        self.assertEqual(sent(SETUP, EITHER, 7, 0), (3, 1, 2, 2, 3, 1, 1, 1, 1, 3, 0, 1, 2, 0, 3))
        self.assertEqual(sent(setup=SETUP, scheme=EITHER, ground=7, thing=0), sent(SETUP, EITHER, 7, 0))
        self.assertEqual(
            received(setup=SETUP, scheme=EITHER, scraps=((3, 1, 2, 2, 3, 1), (2, 3, 0, 1, 2, 0, 3))), (0, 7))

    def test_losses(self):
        stream = sent(SETUP, EITHER, 7, 0)
        marks = [at for at, digit in enumerate(stream) if digit == 3]
        for lost, whole in itertools.product(range(3), range(3)):
            left = [stream[marks[at]:marks[at + 1] + 1] for at in range(3) if at not in (lost, whole)]
            if lost == whole:
                self.assertEqual(received(SETUP, EITHER, tuple(left)), (0, 7))
            else:
                with self.assertRaises(Unmended) as caught:
                    received(SETUP, EITHER, tuple(left))
                told = told_blocks(5, PLAN, tuple(at for at in range(3) if at not in (lost, whole)))
                self.assertEqual(caught.exception.untold, tuple(at for at in range(2) if at not in told))
        frames = frames_in(4, stream)
        spoilt = stream_of(4, (frames[0], frames[1] - 15, frames[2]))
        self.assertEqual(refused_word(received, SETUP, EITHER, (spoilt,)), "scraps")

    def test_refusals(self):
        check_refusals(
            self, sent, {"setup": SETUP, "scheme": EITHER, "ground": 7, "thing": 1},
            {"setup": NO_SETUP, "scheme": NO_SCHEME, "ground": NO_NUMBER, "thing": NO_NUMBER + (2, BIG)})
        check_refusals(
            self, received, {"setup": SETUP, "scheme": EITHER, "scraps": (sent(SETUP, EITHER, 7, 0),)},
            {"setup": NO_SETUP, "scheme": NO_SCHEME, "scraps": NO_SCRAPS})


if __name__ == "__main__":
    unittest.main()
