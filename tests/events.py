"""Events, logs and values that are nearly some, and a live stack taken step by step, for the tests."""

from pushedback.schemecoder import pop_thing, push_thing
from pushedback.things import is_thing
from tests import streams_by_hand
from tests.refusals import NO_BASE, NO_NUMBER, NO_ROW
from tests.schemes import COIN, EITHER, NO_SCHEME, SCHEMES

BIG = 10 ** 59 + 7
THINGS = (0, 7, BIG, (), (0,), ((),), (0, (1,)), ((0, 1), (), 2), ((0, (1, 1, 0)), ((0, ()), (0, ()))))
NO_FORM = (True, False, None, "", "0", -1, [], [0], (True,), (0, None), (0, ("0",)), ((), [()]), (-1,), ((0, -1),))
EVENTS = tuple(("push", thing) for thing in THINGS) + (("pop",),) + tuple(("change", scheme) for scheme in SCHEMES) + (
    ("feed", 2, ()), ("feed", 2, (1, 0, 1)), ("feed", 256, (255, 0)), ("feed", 10, (9,) * 40), ("back", 2, 0),
    ("back", 256, 3), ("back", 10, BIG),
)
NO_EVENT = (
    None, True, 0, 7, "", "pop", (), [], ["pop"], [("pop",)], ("pop", ()), ("pop", 0), ("Pop",), ("push",), ("push", 0, 0),
    ("pushes", 0), ["push", 0], ("push", None), ("change",), ("change", COIN, COIN), ["change", COIN], ("feed",), ("feed", 2),
    ("feed", 2, (0,), (0,)), ("feed", 2, 0), ("feed", 2, (2,)), ("feed", 2, [0]), ("feed", 2, (True,)), ("feed", (0,), 2),
    ("feed", 2, (-1,)), ("back",), ("back", 2), ("back", 2, 0, 0), ("back", 2, (0,)), ("begin", 5, COIN), ("undo", 1),
    (("pop",),), ("Change", COIN), ("", COIN), ("table", COIN), ("pop", COIN), ("", 0),
    (None, 2, 0), (["pop"],), (True,), ("feed", 2, None), ("back", 2, "0"), ("pop", "pop", "pop"),
) + tuple(("push", thing) for thing in NO_FORM) + tuple(("change", scheme) for scheme in NO_SCHEME) + tuple(
    (word, base, told) for base in NO_BASE for word, told in (("feed", ()), ("back", 0))) + tuple(
    ("feed", 2, digits) for digits in NO_ROW) + tuple(("back", 2, many) for many in NO_NUMBER)
LOGS = (
    (("begin", 5, EITHER),), (("begin", BIG, ("row", ())), ("push", ())), (("begin", 0, COIN),) + EVENTS,
    (("begin", 5, EITHER), ("push", 0), ("pop",), ("pop",), ("feed", 2, (1, 0)), ("back", 2, 3), ("change", ("even", 3))),
)
NO_LOG = (
    None, True, 0, "", (), [], ("begin", 5, COIN), [("begin", 5, COIN)], (("begin", 5, COIN), None), (("pop",),),
    (("begin", 5),), (("begin", 5, COIN, ()),), (("Begin", 5, COIN),), (["begin", 5, COIN],), (("pop",), ("begin", 5, COIN)),
    (("begin", 5, COIN), ("begin", 5, COIN)), (("begin", COIN, 5),), ((None, 5, COIN),), ("begin",), ((),),
) + tuple((("begin", ground, COIN),) for ground in NO_NUMBER) + tuple(
    (("begin", 5, scheme),) for scheme in NO_SCHEME) + tuple((("begin", 5, COIN), ("pop",), event) for event in NO_EVENT)


class ByHand:
    """A ground, a scheme and events, all of which are taken anew for each question."""

    def __init__(self, ground, scheme):
        self.begin = (ground, scheme)
        self.events = []

    def states(self):
        """The states ahead of the first event and behind each one, and what each one gives."""
        stack, scheme = self.begin
        states, gifts = [self.begin], []
        for word, *told in self.events:
            if word == "push":
                stack = gift = push_thing(stack, scheme, told[0])
            elif word == "pop":
                gift, stack = pop_thing(stack, scheme)
            elif word == "change":
                scheme, gift = told[0], stack
            else:
                base, more = told
                row = streams_by_hand.row_of(base, stack)
                gift = row[len(row) - more:] if word == "back" else None
                row = row[:len(row) - more] if word == "back" else row + more
                stack = streams_by_hand.stack_of(base, row)
                gift = stack if gift is None else gift
            states.append((stack, scheme))
            gifts.append(gift)
        return states, gifts

    def reason(self, event):
        """Why an event by form is refused."""
        stack, scheme = self.states()[0][-1]
        if len(self.events) >= 40:
            return "full"
        if event[0] == "push" and not is_thing(scheme, event[1]):
            return "thing"
        if event[0] == "change" and event[1] == scheme:
            return "same"
        if event[0] == "back" and event[2] > len(streams_by_hand.row_of(event[1], stack)):
            return "short"
        return None
