import unittest

from pushedback.desk import Desk
from pushedback.digitrows import row_of
from pushedback.errors import InvalidEvent, InvalidRow, NothingToUndo, PushError
from pushedback.eventtexts import event_line
from pushedback.live import LiveStack
from pushedback.schemetexts import scheme_line, thing_line
from tests.events import BIG, EVENTS
from tests.schemes import COIN, EITHER, SCHEMES
from tests.test_eventreadings import LONG, LONGER, SIXTY, TOO_LONG

BEGIN = "begin 5 hidden ( 1 1 ) ( ( table ( 1 1 ) ) ( table ( 3 1 ) ) )"
# rows of all kinds, some of which are refused here and there
ROWS = (
    "push 0", "pop", "stack", "pop", "push 7", "feed 2 1 0", "row 2", "back 2 3", "back 2 2", "change even 3", "push 2",
    "bars push 3", "bars change even 3", "bars pop", "bars back 2 99", "bars push ( 0 )", "scheme", "ground", "events", "log",
    "undo", "undo 2", "undo 0", "undo 99", "feed 10", "feed 256 255 255", "row 256", "row 10", "back 3 0", "change row ( )",
    "push ( )", "pop", "change even 3", "change even 3", "log", "undo", "stack", "events",
)
NO_ROW = (
    None, True, 0, 5, (), [], ["pop"], ("pop",), "", " ", "x", "Pop", "pop ", " pop", "pop\n", "pop pop", "\n", "stack ",
    "stack 2", "stack\n", "ground 5", "scheme even 6", "events 1", "log 1", "log ", "row", "row ", "row 1", "row 257", "row 02",
    "row x", "row 2 0", "row 2 ", "row ( 2 )", "row -2", "undo x", "undo -1", "undo 01", "undo ", "undo 1 1", "undo  1",
    "undo " + LONGER, "undo ( )", "undo 1\n", "undo\n", "bars", "bars ", "bars x", "bars undo", "bars stack", "bars pop ",
    "bars bars pop", "bars push", "bars back 2 03", "bars begin 5 even 6", "barspop", "push", "push 01", "push ( 0", "change",
    "change even 0", "change even", "feed", "feed 1", "feed 2 2", "back", "back 2", "back 2 03", "begin", "begin 5",
    "begin 5 even 0", "begin 05 even 6", "begin x even 6", "begin 5 even 6\n", "begin 5 even 6 ", "begin " + TOO_LONG + " even 6",
    " begin 5 even 6", "Stack", "STACK", "counts", "say", "None", "-", "begin 5 even 6 6", ("begin", 5, COIN), {},
)


def expected(live, row):
    """What the live stack answers to a row that can be read."""
    word, *told = row.split(" ")
    if word in ("stack", "ground"):
        return str(live.stack_now if word == "stack" else live.ground_now)
    if word == "scheme":
        return scheme_line(live.scheme_now)
    if word == "row":
        return " ".join(str(digit) for digit in row_of(int(told[0]), live.stack_now)) or "-"
    if word == "log":
        return " / ".join(event_line(event) for event in live) or "-"
    if word == "events":
        return str(len(live))
    if word == "undo":
        return " / ".join(event_line(event) for event in live.undo(*[int(steps) for steps in told])) or "-"
    if word == "bars":
        return live.barred(event_for(" ".join(told))) or "-"
    gift = live.go(event_for(row))
    if word == "pop":
        return thing_line(gift)
    return " ".join(str(digit) for digit in gift) or "-" if word == "back" else str(gift)


def event_for(line):
    """The event whose line this is, among those of the rows above."""
    known = EVENTS + (
        ("push", 2), ("push", 3), ("feed", 2, (1, 0)), ("back", 2, 3), ("back", 2, 2), ("back", 2, 99), ("change", ("even", 3)),
        ("feed", 10, ()), ("feed", 256, (255, 255)), ("back", 3, 0))
    return next(event for event in known if event_line(event) == line)


class DeskTest(unittest.TestCase):
    def refused(self, desk, row):
        with self.assertRaises(InvalidRow) as caught:
            desk.say(row)
        self.assertIs(caught.exception.row, row)

    def test_rows(self):
        desk, live = Desk(), LiveStack(5, EITHER)
        self.assertEqual(desk.say(BEGIN), "ok")
        kinds = set()
        for calls, row in enumerate(ROWS, 2):
            try:
                told = expected(live, row)
            except PushError as error:
                with self.assertRaises(type(error)) as caught:
                    desk.say(row)
                self.assertEqual(vars(caught.exception), vars(error))
                kinds.add(type(error))
            else:
                answer = desk.say(row)
                self.assertIs(type(answer), str)
                self.assertEqual(answer, told, row)
            self.assertEqual(desk.counts(), (calls, calls))
        self.assertEqual(kinds, {InvalidEvent, NothingToUndo})

    def test_answers(self):
        desk = Desk()
        for row, told in (
            ("begin 5 table ( 2 1 1 )", "ok"), ("log", "-"), ("events", "0"), ("stack", "5"), ("ground", "5"),
            ("scheme", "table ( 2 1 1 )"), ("pop", "0"), ("stack", "3"), ("feed 2 0 1", "16"), ("row 2", "0 0 0 1"),
            ("back 2 3", "0 0 1"), ("bars push 3", "thing"), ("bars push 1", "-"), ("bars change table ( 2 1 1 )", "same"),
            ("bars back 2 9", "short"), ("back 2 0", "-"), ("events", "4"), ("log", "pop / feed 2 0 1 / back 2 3 / back 2 0"),
            ("undo 3", "back 2 0 / back 2 3 / feed 2 0 1"), ("undo", "pop"), ("undo 0", "-"), ("log", "-"), ("stack", "5"),
            ("change row ( )", "5"), ("push ( )", "5"), ("pop", "( )"), ("change set 3 2", "5"), ("pop", "( 1 2 )"),
            ("change row ( ( even 2 ) ( set 3 1 ) )", "1"), ("push ( 1 ( 2 ) )", "11"), ("pop", "( 1 ( 2 ) )"),
            ("feed 256", "1"), ("row 2", "0"), ("back 2 1", "0"), ("row 2", "-"), ("stack", "0"), ("ground", "5"),
        ):
            self.assertEqual(desk.say(row=row), told, row)
        self.assertEqual(desk.counts(), (37, 37))
        self.assertIs(type(desk.counts()), tuple)

    def test_before_the_first_log(self):
        desk = Desk()
        for row in ROWS + NO_ROW:
            self.refused(desk, row)
        self.assertEqual(desk.counts(), (len(ROWS + NO_ROW),) * 2)
        self.assertEqual(desk.say(BEGIN), "ok")
        self.assertEqual(desk.say("stack"), "5")

    def test_no_rows(self):
        desk = Desk()
        desk.say(BEGIN)
        desk.say("push 0")
        for row in NO_ROW:
            self.refused(desk, row)
            # nothing has changed
            self.assertEqual((desk.say("log"), desk.say("ground"), desk.say("stack")), ("push 0", "5", "8"))
        self.assertEqual(desk.counts(), (2 + 4 * len(NO_ROW),) * 2)

    def test_second_log(self):
        desk = Desk()
        desk.say(BEGIN)
        desk.say("push 0")
        self.assertEqual(desk.say(f"begin {LONG} row ( )"), "ok")
        self.assertEqual(
            [desk.say(row) for row in ("log", "stack", "ground", "scheme", "events")], ["-", LONG, LONG, "row ( )", "0"])
        with self.assertRaises(NothingToUndo) as caught:
            desk.say("undo")
        self.assertEqual(caught.exception.steps, 1)
        self.assertEqual(desk.counts(), (9, 9))
        # a first line that cannot be read leaves what is there
        self.refused(desk, "begin 6 even 0")
        self.assertEqual(desk.say("ground"), LONG)

    def test_all_schemes(self):
        for scheme in SCHEMES:
            desk, live = Desk(), LiveStack(BIG, scheme)
            self.assertEqual(desk.say(f"begin {BIG} {scheme_line(scheme)}"), "ok")
            thing = live.pop_off()
            self.assertEqual(desk.say("pop"), thing_line(thing))
            self.assertEqual(desk.say("stack"), str(live.stack_now))
            self.assertEqual(desk.say("push " + thing_line(thing)), str(BIG))
            self.assertEqual(desk.say("scheme"), scheme_line(scheme))

    def test_errors_of_the_live_stack(self):
        desk = Desk()
        desk.say(BEGIN)
        for row, event, reason in (
            ("push 7", ("push", 7), "thing"), ("push ( 0 )", ("push", (0,)), "thing"), ("back 2 3", ("back", 2, 3), "short"),
            ("change hidden ( 1 1 ) ( ( table ( 1 1 ) ) ( table ( 3 1 ) ) )", ("change", EITHER), "same"),
            ("back 2 " + SIXTY, ("back", 2, 10 ** 60 - 1), "short"),
        ):
            with self.assertRaises(InvalidEvent) as caught:
                desk.say(row)
            self.assertEqual((caught.exception.event, caught.exception.reason), (event, reason))
            self.assertEqual(desk.say("bars " + row), reason)
        for at in range(40):
            desk.say("feed 2 1")
        with self.assertRaises(InvalidEvent) as caught:
            desk.say("pop")
        self.assertEqual((caught.exception.event, caught.exception.reason), (("pop",), "full"))
        self.assertEqual((desk.say("bars pop"), desk.say("events")), ("full", "40"))
        for steps in (41, 10 ** 60 - 1):
            with self.assertRaises(NothingToUndo) as caught:
                desk.say(f"undo {steps}")
            self.assertEqual(caught.exception.steps, steps)
        self.assertEqual(desk.say("undo 40"), " / ".join(["feed 2 1"] * 40))
        self.assertEqual(desk.counts(), (57, 57))

    def test_deep_things(self):
        desk = Desk()
        desk.say(BEGIN)
        line = "push " + "( " * 990 + ") " * 989 + ")"
        self.assertEqual(desk.say("bars " + line), "thing")
        with self.assertRaises(InvalidEvent):
            desk.say(line)

    def test_objects_apart(self):
        one, other = Desk(), Desk()
        one.say(BEGIN)
        self.refused(other, "stack")
        other.say("begin 7 even 6")
        self.assertEqual((one.say("stack"), other.say("stack"), one.counts(), other.counts()), ("5", "7", (2, 2), (3, 3)))


if __name__ == "__main__":
    unittest.main()
