import itertools
import unittest

from pushedback.errors import InvalidEvent, NothingToUndo, NotUsable
from pushedback.live import LiveStack
from pushedback.liveevents import is_event, is_log
from pushedback.replaying import replayed
from pushedback.things import things_of
from tests.events import BIG, EVENTS, LOGS, NO_EVENT, NO_LOG, ByHand
from tests.refusals import NO_NUMBER, check_refusals, refused_word
from tests.schemes import BENT, COIN, EITHER, NO_SCHEME, SCHEMES

# what is done in the tests, some of it refused here and there
DOINGS = (
    ("push", 0), ("pop",), ("pop",), ("push", 7), ("feed", 2, (1, 0)), ("back", 2, 3), ("change", EITHER), ("back", 2, 2),
    ("change", ("even", 3)), ("push", 2), ("push", 3), ("change", ("even", 3)), ("feed", 10, ()), ("feed", 256, (255, 255)),
    ("back", 256, 2), ("back", 256, 3), ("back", 3, 0), ("change", ("row", ())), ("push", ()), ("pop",), ("back", 2, BIG),
    ("change", ("bag", (2, (1, 1)), 2)), ("push", (0, 1)), ("push", (1, 0)), ("pop",), ("change", COIN), ("pop",), ("pop",),
)


class Mine(LiveStack):
    pass


def called(live, event):
    """The event by the method of its name."""
    methods = {"push": live.push_on, "pop": live.pop_off, "change": live.change, "feed": live.feed, "back": live.back}
    return methods[event[0]](*event[1:])


class LiveeventsTest(unittest.TestCase):
    def test_events(self):
        for event in EVENTS:
            self.assertIs(is_event(event), True, event)
        for thing in NO_EVENT:
            self.assertIs(is_event(thing), False, thing)
        self.assertIs(is_event(thing=("pop",)), True)
        self.assertIs(is_event(LiveStack(5, COIN)), False)

    def test_logs(self):
        for log in LOGS:
            self.assertIs(is_log(log), True)
        for thing in NO_LOG:
            self.assertIs(is_log(thing), False, thing)
        # possible or not
        self.assertIs(is_log(thing=(("begin", 0, COIN), ("push", 9), ("change", COIN), ("back", 2, 99))), True)


class LiveTest(unittest.TestCase):
    def refused(self, call, *args, **named):
        with self.assertRaises(InvalidEvent) as caught:
            call(*args, **named)
        return caught.exception.event, caught.exception.reason

    def check(self, live, hand, calls):
        """The live stack is as the events by hand tell."""
        states, gifts = hand.states()
        self.assertEqual((live.ground_now, live.stack_now, live.scheme_now), (hand.begin[0],) + states[-1])
        log = live.log()
        self.assertIs(type(log), tuple)
        self.assertEqual(log, (("begin",) + hand.begin,) + tuple(hand.events))
        self.assertEqual((len(live), list(live)), (len(hand.events), hand.events))
        self.assertEqual([live[place] for place in range(len(live))], gifts)
        self.assertEqual(live.tally(), (calls, calls))
        self.assertIs(is_log(log), True)

    def test_new(self):
        for maker in (LiveStack, Mine):
            for ground in (0, 5, BIG, 10 ** 999):
                for scheme in SCHEMES:
                    live = maker(ground=ground, scheme=scheme)
                    self.assertEqual((live.ground_now, live.stack_now, live.scheme_now), (ground, ground, scheme))
                    self.assertEqual((live.log(), len(live), live.tally()), ((("begin", ground, scheme),), 0, (0, 0)))
        self.assertEqual((LiveStack.MOST, LiveStack(5, COIN).MOST), (40, 40))

    def test_events(self):
        for maker in (LiveStack, Mine):
            live, other, hand = maker(5, EITHER), maker(5, EITHER), ByHand(5, EITHER)
            for calls, event in enumerate(DOINGS, 1):
                reason = hand.reason(event)
                self.assertEqual(live.barred(event), reason)
                if reason is None:
                    hand.events.append(event)
                    gift = hand.states()[1][-1]
                    for told in (live.go(event), called(other, event)):
                        self.assertEqual(told, gift)
                        self.assertIs(type(told), type(gift))
                else:
                    told, why = self.refused(live.go, event)
                    self.assertIs(told, event)
                    self.assertEqual(why, reason)
                    self.assertEqual(self.refused(called, other, event), (event, reason))
                self.check(live, hand, calls)
                self.check(other, hand, calls)
                self.assertIs(live == other, True)

    def test_named(self):
        live = LiveStack(5, EITHER)
        self.assertEqual(live.push_on(thing=0), 8)
        self.assertEqual(live.change(scheme=COIN), 8)
        self.assertEqual(live.feed(base=2, digits=(1,)), 18)
        self.assertEqual(live.back(base=2, many=1), (1,))
        self.assertEqual(live.go(event=("pop",)), 0)
        self.assertEqual(live.pop_off(), 0)
        self.assertIsNone(live.barred(event=("pop",)))
        self.assertEqual(live.undo(steps=2), (("pop",), ("pop",)))

    def test_shape(self):
        live = LiveStack(5, EITHER)
        for thing in NO_EVENT:
            event, reason = self.refused(live.go, thing)
            self.assertIs(event, thing)
            self.assertEqual(reason, "shape")
            self.assertEqual(live.barred(thing), "shape")
        for word, call, told in (
            ("push", live.push_on, (True,)), ("push", live.push_on, (None,)), ("push", live.push_on, ((0, [1]),)),
            ("change", live.change, (("even", 0),)), ("change", live.change, (None,)), ("feed", live.feed, (1, ())),
            ("feed", live.feed, (2, (0, 2))), ("feed", live.feed, (2, [0])), ("feed", live.feed, (True, ())),
            ("back", live.back, (257, 0)), ("back", live.back, (2, -1)), ("back", live.back, (2, True)),
        ):
            event, reason = self.refused(call, *told)
            self.assertEqual((event, reason), ((word,) + told, "shape"))
            for given, kept in zip(told, event[1:]):
                self.assertIs(given, kept)
        self.check(live, ByHand(5, EITHER), len(NO_EVENT) + 12)

    def test_full(self):
        live, hand = LiveStack(BIG, COIN), ByHand(BIG, COIN)
        for at in range(40):
            event = (("pop",), ("feed", 2, (1,)), ("push", 1))[at % 3]
            live.go(event)
            hand.events.append(event)
        self.check(live, hand, 40)
        # shape comes first, then full, then all others
        for event, reason in (
            (("pop",), "full"), (("push", 9), "full"), (("push", True), "shape"), (("change", COIN), "full"),
            (("back", 2, 10 ** 6), "full"), (("feed", 2, (2,)), "shape"), (("feed", 2, ()), "full"), (("back", 2, 0), "full"),
            (None, "shape"),
        ):
            self.assertEqual(live.barred(event), reason)
            self.assertEqual(self.refused(live.go, event), (event, reason))
            self.assertEqual(self.refused(live.tried, event), (event, reason))
            self.assertEqual(self.refused(live.do_all, event), (event, reason))
        self.check(live, hand, 58)
        self.assertEqual(live.undo(0), ())
        self.assertEqual(live.undo(), (hand.events.pop(),))
        self.assertIsNone(live.barred(("pop",)))
        self.assertEqual(self.refused(live.tried, ("back", 2, 0), ("pop",)), (("pop",), "full"))
        live.go(("pop",))
        self.assertEqual(live.barred(("pop",)), "full")
        self.assertEqual(len(live.undo(40)), 40)
        self.assertEqual(live.log(), (("begin", BIG, COIN),))
        self.assertEqual(len(live.tried(*[("pop",)] * 40)[2]), 40)
        self.assertEqual(self.refused(live.tried, *[("pop",)] * 41), (("pop",), "full"))

    def test_short(self):
        # the row of 21 has four digits of base two
        for many, reason in ((0, None), (3, None), (4, None), (5, "short"), (BIG, "short")):
            self.assertEqual(LiveStack(21, COIN).barred(("back", 2, many)), reason)
        live = LiveStack(21, COIN)
        self.assertEqual((live.back(2, 4), live.stack_now), ((0, 1, 1, 0), 0))
        self.assertEqual((live.back(2, 0), live.back(256, 0), live.barred(("back", 2, 1))), ((), (), "short"))
        self.assertEqual(LiveStack(0, COIN).barred(("back", 256, 0)), None)

    def test_same(self):
        live = LiveStack(21, ("even", 3))
        self.assertEqual(self.refused(live.change, ("even", 3)), (("change", ("even", 3)), "same"))
        self.assertEqual(live.change(("even", 4)), 21)
        self.assertEqual(live.change(("even", 3)), 21)
        for scheme in SCHEMES:
            live = LiveStack(21, scheme)
            for other in SCHEMES:
                self.assertEqual(live.barred(("change", other)), "same" if other == scheme else None)

    def test_tried(self):
        live, hand = LiveStack(5, EITHER), ByHand(5, EITHER)
        good = (("push", 0), ("pop",), ("pop",), ("feed", 2, (1, 0)), ("back", 2, 3), ("push", 1))
        for ahead in range(0, 6):
            for events in ((), (("pop",),), (("change", COIN), ("push", 1), ("pop",), ("back", 2, 1)),
                           (("change", COIN), ("change", EITHER)), (("feed", 7, (6,)),) * 3):
                told = live.tried(*events)
                would = ByHand(5, EITHER)
                would.events = hand.events + list(events)
                states, gifts = would.states()
                self.assertIs(type(told), tuple)
                self.assertEqual(told, states[-1] + (tuple(gifts[ahead:]),))
                self.check(live, hand, ahead)
            for events, at in (
                ((("push", 7),), 0), ((("pop",), ("push", 7), None), 1), ((("change", COIN), ("pop",), ("change", COIN)), 2),
                ((None, ("push", 7)), 0), ((("back", 2, 0), ("back", 2, 999)), 1),
            ):
                reason = self.refused(live.tried, *events)
                self.assertIs(reason[0], events[at])
                self.assertIn(reason[1], ("thing", "same", "shape", "short"))
                self.check(live, hand, ahead)
            live.go(good[ahead])
            hand.events.append(good[ahead])

    def test_undo(self):
        for many in range(8):
            live, hand = LiveStack(5, EITHER), ByHand(5, EITHER)
            events = [("push", 0), ("feed", 2, (1, 0)), ("change", COIN), ("pop",), ("back", 2, 1), ("push", 1), ("pop",)]
            for event in events:
                live.go(event)
            told = live.undo(many)
            self.assertIs(type(told), tuple)
            self.assertEqual(told, tuple(events[len(events) - many:][::-1]))
            hand.events = events[:len(events) - many]
            self.check(live, hand, 8)
            # it goes on as if they had not been
            for event in (("feed", 3, (2,)), ("back", 3, 1)):
                live.go(event)
                hand.events.append(event)
            self.check(live, hand, 10)
        live = LiveStack(5, EITHER)
        live.push_on(0)
        for steps in (2, 3, 40, BIG):
            with self.assertRaises(NothingToUndo) as caught:
                live.undo(steps)
            self.assertEqual(caught.exception.steps, steps)
        for steps in NO_NUMBER:
            self.assertEqual(refused_word(live.undo, steps), "steps")
        self.assertEqual((len(live), live.tally()), (1, (5 + len(NO_NUMBER),) * 2))
        self.assertEqual(live.undo(), (("push", 0),))
        with self.assertRaises(NothingToUndo) as caught:
            live.undo()
        self.assertEqual(caught.exception.steps, 1)
        self.assertEqual(live.undo(0), ())

    def test_do_all(self):
        events = (("push", 0), ("pop",), ("change", COIN), ("push", 7), ("pop",))
        for keep in (False, True):
            live, hand = LiveStack(5, EITHER), ByHand(5, EITHER)
            live.pop_off()
            hand.events.append(("pop",))
            self.assertEqual(live.do_all(*events[:3], keep=keep), 3)
            hand.events.extend(events[:3])
            self.check(live, hand, 2)
            self.assertEqual(live.do_all(keep=keep), 0)
            self.check(live, hand, 3)
            self.assertEqual(live.do_all(("change", EITHER), keep=keep), 1)
            hand.events.append(("change", EITHER))
            self.check(live, hand, 4)
            told = self.refused(live.do_all, *events, keep=keep)
            self.assertEqual(told, (("push", 7), "thing"))
            self.assertIs(told[0], events[3])
            if keep:
                hand.events.extend(events[:3])
            self.check(live, hand, 5)
            for wrong in (None, 0, 1, "", "True", (), [], (True,), LiveStack):
                self.assertEqual(refused_word(live.do_all, *events, keep=wrong), "keep")
                self.assertEqual(refused_word(live.do_all, None, keep=wrong), "keep")
            self.check(live, hand, 23)
            self.assertEqual(self.refused(live.do_all, ("pop",), None, keep=keep), (None, "shape"))
            if keep:
                hand.events.append(("pop",))
            self.check(live, hand, 24)
        live = LiveStack(5, EITHER)
        self.assertEqual(live.do_all(*events[:2]), 2)
        self.refused(live.do_all, *events)
        self.assertEqual(len(live), 2)
        # forty and one more
        self.refused(live.do_all, *[("pop",)] * 39)
        self.assertEqual(len(live), 2)
        self.refused(live.do_all, *[("pop",)] * 39, keep=True)
        self.assertEqual((len(live), live.tally()), (40, (4, 4)))

    def test_tally(self):
        live = LiveStack(5, EITHER)
        for count, call in enumerate((
            lambda: live.push_on(0), lambda: live.push_on(None), lambda: live.pop_off(), lambda: live.change(COIN),
            lambda: live.change(COIN), lambda: live.feed(2, ()), lambda: live.feed(1, ()), lambda: live.back(2, 0),
            lambda: live.back(2, 99), lambda: live.go(("pop",)), lambda: live.go(None), lambda: live.undo(),
            lambda: live.undo(99), lambda: live.undo(None), lambda: live.do_all(("pop",), ("pop",)),
            lambda: live.do_all(("pop",), None), lambda: live.do_all(("pop",), None, keep=True), lambda: live.do_all(keep=0),
        ), 1):
            try:
                call()
            except ValueError:
                pass
            self.assertEqual(live.tally(), (count, count))
        for call in (
            lambda: live.barred(("pop",)), lambda: live.barred(None), lambda: live.tried(("pop",), ("pop",)),
            lambda: live.tried(None), lambda: live.tally(), lambda: live.log(), lambda: list(live), lambda: len(live),
            lambda: live[0], lambda: live[None], lambda: ("pop",) in live, lambda: live == live, lambda: live.stack_now,
        ):
            try:
                call()
            except ValueError:
                pass
            self.assertEqual(live.tally(), (18, 18))
        self.assertIs(type(live.tally()), tuple)

    def test_items(self):
        live = LiveStack(5, EITHER)
        live.do_all(("push", 1), ("feed", 2, (1, 0)), ("back", 2, 1), ("change", COIN), ("pop",))
        for thing in (("push", 1), ("feed", 2, (1, 0)), ("back", 2, 1), ("change", COIN), ("pop",)):
            self.assertIs(thing in live, True)
        for thing in (("push", True), ("feed", 2, (True, 0)), ("feed", 2, (1, False)), ("back", 2, True), ("push", 0), "pop",
                      ["pop"], ("feed", 2, [1, 0]), ("change", ("table", (True, 1))), None, 1, live, (), ("change", BENT),
                      ("back", 2, 2), (("pop",),)):
            self.assertIs(thing in live, False, thing)
        for place in NO_NUMBER + (5, BIG):
            self.assertEqual(refused_word(lambda at: live[at], place), "place")
        self.assertEqual(live[2], (0,))
        live.undo(2)
        self.assertIs(("pop",) in live, False)
        self.assertEqual(refused_word(lambda at: live[at], 3), "place")
        self.assertEqual((len(live), live[2]), (3, (0,)))
        live.undo(3)
        for place in (0, 1):
            self.assertEqual(refused_word(lambda at: live[at], place), "place")
        self.assertEqual(list(live), [])

    def test_equality(self):
        def made(maker, ground, scheme, *events):
            live = maker(ground, scheme)
            live.do_all(*events)
            return live

        for maker, other in itertools.product((LiveStack, Mine), repeat=2):
            one = made(maker, 5, EITHER, ("push", 0), ("pop",))
            self.assertIs(one == made(other, 5, EITHER, ("push", 0), ("pop",)), True)
            self.assertIs(one != made(other, 5, EITHER, ("push", 0), ("pop",)), False)
            longer = made(other, 5, EITHER, ("push", 0), ("pop",), ("pop",))
            self.assertIs(one == longer, False)
            longer.undo()
            self.assertIs(one == longer, True)
            for unlike in (made(other, 5, EITHER), made(other, 5, EITHER, ("push", 1), ("pop",)), one.log(), list(one), None,
                           made(other, 6, EITHER, ("push", 0), ("pop",)), made(other, 5, COIN, ("push", 0), ("pop",)), 5, True,
                           # the same stack and scheme, by other events
                           made(other, 5, EITHER, ("back", 2, 0), ("feed", 2, ()))):
                self.assertIs(one == unlike, False)

    def test_objects_apart(self):
        one, other = LiveStack(5, EITHER), LiveStack(5, EITHER)
        one.push_on(0)
        self.assertEqual((other.log(), other.tally(), one.tally()), ((("begin", 5, EITHER),), (0, 0), (1, 1)))
        log, events = one.log(), list(one)
        one.pop_off()
        self.assertEqual((len(log), len(events)), (2, 1))

    def test_pop_and_push(self):
        for scheme in SCHEMES:
            for ground in (0, 5, BIG):
                live = LiveStack(ground, scheme)
                live.push_on(live.pop_off())
                self.assertEqual(live.stack_now, ground)
                thing = things_of(scheme)[0]
                live.push_on(thing)
                self.assertEqual(live.pop_off(), thing)
                self.assertEqual(live.stack_now, ground)

    def test_refusals(self):
        check_refusals(self, LiveStack, {"ground": 5, "scheme": COIN}, {"ground": NO_NUMBER, "scheme": NO_SCHEME})
        check_refusals(self, Mine, {"ground": 5, "scheme": COIN}, {"ground": NO_NUMBER, "scheme": NO_SCHEME})


class ReplayingTest(unittest.TestCase):
    def test_replayed(self):
        live, hand = Mine(5, EITHER), ByHand(5, EITHER)
        for event in DOINGS:
            if hand.reason(event) is None:
                hand.events.append(event)
                live.go(event)
            again = replayed(live.log())
            self.assertIs(type(again), LiveStack)
            self.assertIs(again == live, True)
            self.assertEqual((again.tally(), again.stack_now, again.scheme_now), ((0, 0), live.stack_now, live.scheme_now))
            self.assertEqual([again[at] for at in range(len(again))], [live[at] for at in range(len(live))])
        again = replayed(log=live.log())
        again.undo(3)
        self.assertEqual((len(again) + 3, again.tally()), (len(live), (1, 1)))
        self.assertIsNot(replayed(live.log()), again)

    def test_refused_events(self):
        for events, at, reason in (
            ((("push", 7),), 0, "thing"), ((("pop",), ("change", EITHER), ("push", 7)), 1, "same"),
            ((("back", 2, 9),), 0, "short"), ((("pop",),) * 41, 40, "full"), ((("change", ("even", 9)), ("push", 9)), 1, "thing"),
        ):
            with self.assertRaises(InvalidEvent) as caught:
                replayed((("begin", 5, EITHER),) + events)
            self.assertIs(caught.exception.event, events[at])
            self.assertEqual(caught.exception.reason, reason)
        self.assertEqual(len(replayed((("begin", BIG, EITHER),) + (("pop",),) * 40)), 40)

    def test_refusals(self):
        check_refusals(self, replayed, {"log": LOGS[0]}, {"log": NO_LOG})
        with self.assertRaises(NotUsable):
            replayed(LiveStack(5, EITHER))


if __name__ == "__main__":
    unittest.main()
