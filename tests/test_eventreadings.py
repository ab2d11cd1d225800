import re
import unittest

from pushedback.errors import InvalidText
from pushedback.eventreadings import read_event, read_log
from pushedback.eventtexts import event_line, log_lines
from pushedback.schemereadings import read_scheme, read_thing
from pushedback.schemetexts import scheme_line, thing_line
from tests.events import EVENTS, LOGS, NO_EVENT, NO_LOG
from tests.refusals import NO_STRING, check_refusals
from tests.schemes import COIN, EITHER

SIXTY, LONGER = "9" * 60, "1" + "0" * 60
LONG, TOO_LONG = "9" * 500, "1" + "0" * 500
# words that can stand nowhere
ODD = ("", "x", "-1", "+1", "00", "01", "1_0", "1.0", "3\n", "\n", "((", "()", "Pop", "pop\n", "()", "None", "-", "0x1")
WORDS = ("push", "pop", "change", "feed", "back", "begin")


def line_by_hand(value):
    if isinstance(value, tuple):
        return " ".join(["("] + [line_by_hand(part) for part in value] + [")"])
    return str(value)


def event_by_hand(event):
    word, *told = event
    if word == "push":
        return "push " + line_by_hand(told[0])
    if word == "change":
        return " ".join(["change", told[0][0]] + [line_by_hand(part) for part in told[0][1:]])
    if word == "feed":
        return " ".join(["feed", str(told[0])] + [str(digit) for digit in told[1]])
    return " ".join([word] + [str(part) for part in told])


def is_numeral(word, most=60):
    return re.fullmatch("0|[1-9][0-9]*", word) is not None and len(word) <= most


def field_by_hand(words):
    """The field at which a line of words that write no event is refused, None if they write one."""
    if words[0] in ("push", "change"):
        reader = read_thing if words[0] == "push" else read_scheme
        if len(words) == 1:
            return 1
        try:
            reader(" ".join(words[1:]))
        except InvalidText as error:
            return error.field + 1
        return None
    most = {"pop": 1, "feed": len(words), "back": 3}
    if words[0] not in most:
        return 0
    for at in range(1, len(words)):
        base = int(words[1]) if at > 1 else 257
        if at >= most[words[0]] or not is_numeral(words[at]):
            return at
        if at == 1 and not 2 <= int(words[1]) <= 256 or at > 1 and words[0] == "feed" and int(words[at]) >= base:
            return at
    if len(words) < {"pop": 1, "feed": 2, "back": 3}[words[0]]:
        return len(words)
    return None


class EventtextsTest(unittest.TestCase):
    def test_lines(self):
        for event in EVENTS:
            self.assertEqual(event_line(event), event_by_hand(event))
        for event, line in (
            (("push", 7), "push 7"), (("push", ()), "push ( )"), (("push", (0, (1,))), "push ( 0 ( 1 ) )"), (("pop",), "pop"),
            (("change", COIN), "change table ( 1 1 )"), (("feed", 3, ()), "feed 3"), (("feed", 256, (0, 255)), "feed 256 0 255"),
            (("back", 2, 0), "back 2 0"), (("change", ("row", ())), "change row ( )"),
            (("change", EITHER), "change hidden ( 1 1 ) ( ( table ( 1 1 ) ) ( table ( 3 1 ) ) )"),
        ):
            self.assertEqual(event_line(event), line)
            self.assertEqual(read_event(line), event)
        self.assertEqual(event_line(event=("pop",)), "pop")

    def test_logs(self):
        for log in LOGS:
            told = log_lines(log)
            self.assertIs(type(told), list)
            begin = f"begin {log[0][1]} {scheme_line(log[0][2])}"
            self.assertEqual(told, [begin] + [event_by_hand(event) for event in log[1:]])
            self.assertIsNot(log_lines(log), told)
        self.assertEqual(log_lines(log=(("begin", 0, COIN),)), ["begin 0 table ( 1 1 )"])

    def test_refusals(self):
        check_refusals(self, event_line, {"event": ("pop",)}, {"event": NO_EVENT})
        check_refusals(self, log_lines, {"log": LOGS[0]}, {"log": NO_LOG})


class EventreadingsTest(unittest.TestCase):
    def field(self, text):
        with self.assertRaises(InvalidText) as caught:
            read_event(text)
        self.assertEqual(caught.exception.line, 0)
        return caught.exception.field

    def place(self, lines):
        with self.assertRaises(InvalidText) as caught:
            read_log(lines)
        return caught.exception.line, caught.exception.field

    def test_there_and_back(self):
        for event in EVENTS:
            self.assertEqual(read_event(event_line(event)), event)
        self.assertEqual(read_event(text="feed 3"), ("feed", 3, ()))
        self.assertEqual(read_event(f"back 2 {SIXTY}"), ("back", 2, 10 ** 60 - 1))
        self.assertEqual(read_event(f"push {SIXTY}"), ("push", 10 ** 60 - 1))
        for log in LOGS:
            lines = log_lines(log)
            kept = list(lines)
            self.assertEqual(read_log(lines), log)
            self.assertIs(type(read_log(lines=lines)), tuple)
            self.assertEqual(lines, kept)
        self.assertEqual(read_log([f"begin {LONG} row ( )"]), (("begin", 10 ** 500 - 1, ("row", ())),))

    def test_each_word(self):
        for event in EVENTS[:12] + EVENTS[-7:]:
            words = event_line(event).split(" ")
            for at in range(len(words)):
                for odd in ODD:
                    for behind in (at, at + 1):
                        changed = words[:at] + [odd] + words[behind:]
                        self.assertEqual(self.field(" ".join(changed)), at, changed)
                # left out, doubled, replaced by a word that can stand elsewhere
                rows = [words[:at] + words[at + 1:], words[:at] + [words[at]] + words[at:]]
                rows += [words[:at] + [word] + words[at + 1:] for word in WORDS + ("7", "0", "256", "257", SIXTY, LONGER, "(")]
                rows += [words[:at]]
                for changed in rows:
                    if not changed:
                        continue
                    told = field_by_hand(changed)
                    if told is None:
                        self.assertEqual(event_line(read_event(" ".join(changed))), " ".join(changed))
                    else:
                        self.assertEqual(self.field(" ".join(changed)), told, changed)
            for more in ODD + WORDS + (")",):
                self.assertEqual(self.field(" ".join(words + [more])), len(words), (words, more))
            self.assertEqual(self.field(" ".join(words) + "\n"), len(words) - 1)
            self.assertEqual(self.field("\n" + " ".join(words)), 0)

    def test_fields(self):
        for text, field in (
            ("", 0), (" ", 0), (" pop", 0), ("pop ", 1), ("pop 0", 1), ("Pop", 0), ("begin 5 row ( )", 0), ("undo", 0),
            ("push", 1), ("push ", 1), ("push 0 0", 2), ("push (", 2), ("push ( ( )", 4), ("push )", 1), ("push 01", 1),
            ("push pop", 1), ("push ( 0 ) )", 4), ("push ( even )", 2), ("push  0", 1), (f"push {LONGER}", 1), ("push -1", 1),
            ("change", 1), ("change ", 1), ("change even 0", 1), ("change even", 1), ("change even 06", 2), ("change pop", 1),
            ("change row (", 3), ("change row ( ) )", 4), ("change row ( even 6 )", 1), ("change even 6 6", 1),
            ("change 6", 1), ("change change even 6", 1), ("change even 6 even", 3),
            ("feed", 1), ("feed ", 1), ("feed 1", 1), ("feed 257", 1), ("feed 02", 1), ("feed 2 2", 2), ("feed 2 0 1 2", 4),
            ("feed 2 0  1", 3), ("feed 2 00", 2), ("feed 256 255 256", 3), ("feed x 0", 1), ("feed 0", 1), ("feed ( 2 )", 1),
            ("back", 1), ("back 2", 2), ("back 2 ", 2), ("back 2 03", 2), ("back 2 3 3", 3), ("back 2 3 ", 3), ("back 1 3", 1),
            (f"back 2 {LONGER}", 2), ("back 300 3", 1), ("back 2 -3", 2), ("back 2 3\n", 2), ("feed 2 1\n0", 2), ("pop\n", 0),
        ):
            self.assertEqual(self.field(text), field, text)
        self.assertEqual(read_event("change even 1000001"), ("change", ("even", 1000001)))

    def test_lines_of_logs(self):
        self.assertEqual(self.place([]), (0, 0))
        for line, field in (
            ("", 0), ("Begin 5 even 6", 0), ("pop", 0), ("begin", 1), ("begin ", 1), ("begin 05 even 6", 1), ("begin x", 1),
            (f"begin {TOO_LONG} even 6", 1), ("begin 5", 2), ("begin 5 ", 2), ("begin 5 even", 2), ("begin 5 even 06", 3),
            ("begin 5 row (", 4), ("begin 5 row ( ) )", 5), ("begin 5 even 6 6", 2), ("begin -5 even 6", 1),
            ("begin 5 6 even", 2), (" begin 5 even 6", 0), ("begin  5 even 6", 1), ("begin 5  even 6", 2),
            ("begin 5 even 6 ", 4), ("begin ( ) even 6", 1), ("begin 5 pop", 2), ("stack 2 0", 0),
        ):
            self.assertEqual(self.place([line]), (0, field), line)
            self.assertEqual(self.place([line, "x"]), (0, field), line)
        good = ["begin 5 even 6", "pop", "feed 2 0 1"]
        self.assertEqual(read_log(good), (("begin", 5, ("even", 6)), ("pop",), ("feed", 2, (0, 1))))
        for at in (1, 2, 3):
            for line, field in (("", 0), ("begin 5 even 6", 0), ("push", 1), ("push ( 0", 3), ("change even 06", 2),
                                ("change even 0", 1), ("back 2", 2), ("feed 2 2", 2), ("pop pop", 1)):
                lines = good[:at] + [line] + good[at:]
                self.assertEqual(self.place(lines), (at, field), lines)
                self.assertEqual(self.place(lines + ["y"]), (at, field), lines)

    def test_deep_lines(self):
        # four thousand characters nest deeper than calls can be
        line = "push " + "( " * 990 + ") " * 989 + ")"
        event = read_event(line)
        self.assertEqual(event_line(event), line)
        self.assertEqual(thing_line(event[1]), line[5:])
        self.assertEqual(self.field("push " + "( " * 1900), 1901)
        self.assertEqual(self.field("change even " + "( " * 990 + ") " * 989 + ")"), 1)

    def test_refusals(self):
        check_refusals(self, read_event, {"text": "pop"}, {"text": NO_STRING})
        wrong = (
            None, True, 0, "", "begin 5 even 6", (), ("begin 5 even 6",), [None], ["begin 5 even 6", None], [0], [()],
            ["begin 5 even 6\n"], ["begin 5 even 6", "pop\n"], ["\n"], [["begin 5 even 6"]], ["begin 5 even 6", "", "\n"],
            ["x", True], {"begin 5 even 6": 1},
        )
        check_refusals(self, read_log, {"lines": ["begin 5 even 6"]}, {"lines": wrong})


if __name__ == "__main__":
    unittest.main()
