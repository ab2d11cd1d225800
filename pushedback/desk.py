"""A desk, which answers rows about a live stack."""

from pushedback.digitrows import row_of
from pushedback.errors import InvalidRow, InvalidText
from pushedback.eventreadings import begin_of_words, event_of_words
from pushedback.eventtexts import line_of_event
from pushedback.live import LiveStack
from pushedback.schemetexts import scheme_line, thing_line
from pushedback.words import is_numeral_within, is_short_numeral

NOTHING = "-"


def begin_in(row):
    """The ground and the scheme of a row that should be the first line of a log."""
    try:
        begin = begin_of_words(row.split(" "))
    except InvalidText:
        raise InvalidRow(row)
    return begin[1], begin[2]


def event_in(row, words):
    """The event that the words of a row should write."""
    try:
        return event_of_words(0, words)
    except InvalidText:
        raise InvalidRow(row)


def digits_answer(digits):
    """The digits as they are answered."""
    if len(digits) == 0:
        return NOTHING
    return " ".join([str(digit) for digit in digits])


def lines_answer(events):
    """The lines of the events as they are answered."""
    if len(events) == 0:
        return NOTHING
    return " / ".join([line_of_event(event) for event in events])


def gift_answer(event, gift):
    """What the event gave as it is answered."""
    if event[0] == "pop":
        return thing_line(gift)
    if event[0] == "back":
        return digits_answer(gift)
    return str(gift)


def plain_answer(live, word):
    """The answer to a row of one word that asks for something, None if it is no such word."""
    if word == "stack":
        return str(live.stack_now)
    if word == "ground":
        return str(live.ground_now)
    if word == "scheme":
        return scheme_line(live.scheme_now)
    if word == "log":
        return lines_answer(list(live))
    if word == "events":
        return str(len(live))
    return None


def undo_answer(live, row, words):
    """The answer to a row that begins with undo."""
    if len(words) == 1:
        return lines_answer(live.undo())
    if len(words) > 2 or not is_short_numeral(words[1]):
        raise InvalidRow(row)
    return lines_answer(live.undo(int(words[1])))


def answer_from(live, row, words):
    """The answer of a live stack to a row that is no first line of a log."""
    if words[0] == "undo":
        return undo_answer(live, row, words)
    if len(words) == 1:
        answer = plain_answer(live, words[0])
        if answer is not None:
            return answer
    if len(words) > 1 and words[0] == "bars":
        reason = live.barred(event_in(row, words[1:]))
        if reason is None:
            return NOTHING
        return reason
    if len(words) == 2 and words[0] == "row" and is_numeral_within(words[1], 2, 256):
        return digits_answer(row_of(int(words[1]), live.stack_now))
    event = event_in(row, words)
    return gift_answer(event, live.go(event))


class Desk:
    """A desk with a live stack, at first none."""

    def __init__(self):
        self._live = None
        self._calls = 0

    def say(self, row):
        """The answer to a row."""
        self._calls += 1
        if not isinstance(row, str):
            raise InvalidRow(row)
        words = row.split(" ")
        if words[0] == "begin":
            ground, scheme = begin_in(row)
            self._live = LiveStack(ground, scheme)
            return "ok"
        if self._live is None:
            raise InvalidRow(row)
        return answer_from(self._live, row, words)

    def counts(self):
        """How many calls of say were started, and how many finished."""
        # none goes on while another one is started, and errors finish them too
        return self._calls, self._calls
