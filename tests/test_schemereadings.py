import re
import unittest

from pushedback.errors import InvalidText
from pushedback.schemereadings import read_scheme, read_thing
from pushedback.schemetexts import scheme_line, thing_line
from pushedback.things import things_of
from tests.refusals import NO_STRING, check_refusals
from tests.schemes import EITHER, NEARLY, NO_SCHEME, SCHEMES

SIXTY, LONGER = "9" * 60, "1" + "0" * 60
WORDS = ("even", "table", "row", "choice", "hidden", "learned", "treed", "mixed", "bag", "set", "order", "copies")
ODD = (
    "", "x", "-1", "+1", "00", "01", "1_0", "1.0", "3\n", "\n", ")\n", "(\n", "((", "()", "Even", "even\n", LONGER,
    "new", "copy", "None",
)
THINGS = (
    0, 7, 10 ** 60 - 1, (), (0,), ((),), (((),),), (0, (1,)), ((0, 1), (), 2), (4, ((0, 0), (1, (2, ((),))))),
    ((0, (1, 1, 0)), ((0, ()), (0, ()))),
)
NO_FORM = (True, False, None, "", "0", -1, [], [0], (True,), (0, None), (0, ("0",)), ((), [()]), (-1,), ((0, -1),), ("even", 6))


def line_by_hand(value):
    if isinstance(value, tuple):
        return " ".join(["("] + [line_by_hand(part) for part in value] + [")"])
    return str(value)


def depths(words):
    """How many ( lack their ) ahead of each word."""
    return [words[:at].count("(") - words[:at].count(")") for at in range(len(words))]


def can_stand(words, at):
    """Whether the word can stand where it does in a line of a scheme, if all ahead of it can."""
    word = words[at]
    if at == 0 or word in WORDS:
        return word in WORDS and (at == 0 or words[at - 1] == "(")
    if word == ")":
        return depths(words)[at] > 0
    return word == "(" or re.fullmatch("0|[1-9][0-9]{0,59}", word) is not None


def changed_rows(words):
    """The rows with one word left out, doubled, or put behind the next one."""
    for at in range(len(words)):
        yield words[:at] + words[at + 1:]
        yield words[:at] + [words[at]] + words[at:]
        yield words[:at] + words[at:at + 2][::-1] + words[at + 2:]


class SchemereadingsTest(unittest.TestCase):
    def field(self, reader, text):
        with self.assertRaises(InvalidText) as caught:
            reader(text)
        self.assertEqual(caught.exception.line, 0)
        return caught.exception.field

    def test_schemes_there_and_back(self):
        for scheme in SCHEMES + (("even", 10 ** 60 - 1),):
            line = scheme_line(scheme)
            self.assertEqual(line, " ".join([scheme[0]] + [line_by_hand(part) for part in scheme[1:]]))
            self.assertEqual(read_scheme(line), scheme)
        self.assertEqual(scheme_line(("row", ())), "row ( )")
        self.assertEqual(scheme_line(EITHER), "hidden ( 1 1 ) ( ( table ( 1 1 ) ) ( table ( 3 1 ) ) )")
        self.assertEqual(
            scheme_line(("treed", (2, (1, 1)), ((), ((), ())), (0, 1), 3)),
            "treed ( 2 ( 1 1 ) ) ( ( ) ( ( ) ( ) ) ) ( 0 1 ) 3")
        self.assertEqual(read_scheme("even 1000001"), ("even", 1000001))

    def test_things_there_and_back(self):
        for thing in THINGS:
            self.assertEqual(thing_line(thing), line_by_hand(thing))
            self.assertEqual(read_thing(thing_line(thing)), thing)
        for scheme in SCHEMES:
            for thing in things_of(scheme)[:20]:
                self.assertEqual(read_thing(thing_line(thing)), thing)
        self.assertEqual(thing_line((0, (1,))), "( 0 ( 1 ) )")
        self.assertEqual(read_thing("( )"), ())

    def test_each_word_of_schemes(self):
        for scheme in SCHEMES:
            words = scheme_line(scheme).split(" ")
            ahead = depths(words)
            for at in range(len(words)):
                for odd in ODD:
                    for behind in (at, at + 1):
                        changed = words[:at] + [odd] + words[behind:]
                        self.assertEqual(self.field(read_scheme, " ".join(changed)), at, changed)
                begins = at == 0 or words[at - 1] == "("
                for word in WORDS[:3]:
                    if not begins:
                        changed = words[:at] + [word] + words[at:]
                        self.assertEqual(self.field(read_scheme, " ".join(changed)), at, changed)
                if at and not ahead[at]:
                    changed = words[:at] + [")"] + words[at:]
                    self.assertEqual(self.field(read_scheme, " ".join(changed)), at, changed)
                # so many words, and no more
                if at and words[:at] and ahead[at]:
                    self.assertEqual(self.field(read_scheme, " ".join(words[:at])), at)
            self.assertEqual(self.field(read_scheme, " ".join(words + [")"])), len(words))
            self.assertEqual(self.field(read_scheme, " ".join(words + ["("])), len(words) + 1)
            self.assertEqual(self.field(read_scheme, " ".join(words + ["7"])), 0)
            self.assertEqual(self.field(read_scheme, " ".join(words + ["even"])), len(words))
            self.assertEqual(self.field(read_scheme, " ".join(words + [""])), len(words))
            self.assertEqual(self.field(read_scheme, " ".join(["("] + words + [")"])), 0)
            self.assertEqual(self.field(read_scheme, " ".join(["7"] + words)), 0)
            self.assertEqual(self.field(read_scheme, " ".join(words) + "\n"), len(words) - 1)

    def test_changed_lines(self):
        for scheme in SCHEMES:
            for words in changed_rows(scheme_line(scheme).split(" ")):
                text = " ".join(words)
                misfits = [at for at in range(len(words)) if not can_stand(words, at)]
                if misfits:
                    self.assertEqual(self.field(read_scheme, text), misfits[0], text)
                elif words.count("(") > words.count(")"):
                    self.assertEqual(self.field(read_scheme, text), len(words), text)
                else:
                    try:
                        self.assertEqual(scheme_line(read_scheme(text)), text)
                    except InvalidText as error:
                        self.assertEqual((error.line, error.field), (0, 0), text)

    def test_what_is_no_scheme(self):
        tried = 0
        for thing in NEARLY:
            if isinstance(thing, tuple) and thing and thing[0] in WORDS and not unreadable(thing):
                line = " ".join([thing[0]] + [line_by_hand(part) for part in thing[1:]])
                self.assertEqual(self.field(read_scheme, line), 0, line)
                tried += 1
        self.assertGreater(tried, 30)

    def test_scheme_lines(self):
        for text, field in (
            ("", 0), (" ", 0), ("even", 0), ("even ", 1), ("even 0", 0), ("even 6 6", 0), ("even  6", 1), ("Even 6", 0),
            ("6", 0), ("( even 6 )", 0), ("even even", 1), ("even 6 even", 2), ("even ( even", 3), ("even ( even 6", 4),
            ("even ( 6 even )", 3), ("even ( even even )", 3), ("even ( even 6 )", 0), ("row ( ( even 6 )", 6),
            ("row ( even 6 )", 0), ("row ( ( even 6 ) ) )", 7), ("row ) (", 1), ("row", 0), ("row (", 2),
            ("row ( ) )", 3), ("table ( 1 01 )", 3), (f"even {LONGER}", 1), ("even 06", 1), ("even 6\n", 1),
            ("even\n6", 0), ("order x", 1), ("set 2 3", 0), ("table ( ( 1 ) )", 0), ("row ( row )", 0), ("\n", 0),
            ("row ( ( row ( ) ) ( ) )", 0), ("row ( ( ( row ( ) ) ) )", 0), ("row ( ( 6 ( row", 6),
        ):
            self.assertEqual(self.field(read_scheme, text), field, text)
        self.assertEqual(read_scheme(f"even {SIXTY}"), ("even", 10 ** 60 - 1))
        self.assertEqual(read_scheme("row ( ( even 6 ) ( row ( ) ) )"), ("row", (("even", 6), ("row", ()))))

    def test_deep_lines(self):
        # four thousand characters nest deeper than calls can be
        for text in (
            "even " + "( " * 990 + ") " * 989 + ")",
            "row ( " + "( row ( " * 320 + "( even 0 ) " + ") ) " * 320 + ")",
            "treed ( 0 ( 1 ) ) " + "( " * 900 + ") " * 900 + "( ) 3",
        ):
            self.assertLessEqual(len(text), 4000)
            self.assertEqual(self.field(read_scheme, text), 0)
        self.assertEqual(self.field(read_thing, "( " * 1999), 1999)

    def test_each_word_of_things(self):
        for thing in THINGS:
            words = thing_line(thing).split(" ")
            for at in range(len(words)):
                for odd in ODD + WORDS:
                    for behind in (at, at + 1):
                        changed = words[:at] + [odd] + words[behind:]
                        self.assertEqual(self.field(read_thing, " ".join(changed)), at, changed)
                if at:
                    self.assertEqual(self.field(read_thing, " ".join(words[:at])), at)
            for more in ODD + WORDS + ("(", ")", "0", "7"):
                self.assertEqual(self.field(read_thing, " ".join(words + [more])), len(words))

    def test_thing_lines(self):
        for text, field in (
            ("", 0), (")", 0), ("(", 1), ("( (", 2), ("( ( )", 3), ("( ) )", 2), ("( ) (", 2), ("( ) 0", 2), ("0 0", 1),
            ("0 )", 1), ("0 (", 1), ("( 0", 2), ("( ( ) 0 ) 0", 5), ("(  )", 1), ("0 ", 1), (" 0", 0), ("00", 0),
            ("( 01 )", 1), (LONGER, 0), (f"( {LONGER} )", 1), ("-0", 0), ("0\n", 0), ("( )\n", 1), ("( even )", 1),
            ("even", 0), ("even 6", 0), ("( 0 ) even", 3),
        ):
            self.assertEqual(self.field(read_thing, text), field, text)
        self.assertEqual(read_thing(SIXTY), 10 ** 60 - 1)
        self.assertEqual(read_thing("( ( ) 0 ( 0 ( 1 ) ) )"), ((), 0, (0, (1,))))
        deep = read_thing("( " * 29 + "7" + " )" * 29)
        for _ in range(29):
            (deep,) = deep
        self.assertEqual(deep, 7)

    def test_refusals(self):
        check_refusals(self, read_scheme, {"text": "even 6"}, {"text": NO_STRING})
        check_refusals(self, read_thing, {"text": "6"}, {"text": NO_STRING})
        check_refusals(self, scheme_line, {"scheme": EITHER}, {"scheme": NO_SCHEME})
        check_refusals(self, thing_line, {"thing": (0, ())}, {"thing": NO_FORM})


def unreadable(value):
    """Whether a value has parts that no line writes."""
    if isinstance(value, tuple):
        return any(unreadable(part) for part in value)
    return isinstance(value, (bool, list)) or value is None or isinstance(value, int) and value < 0 or (
        isinstance(value, str) and value not in WORDS)


if __name__ == "__main__":
    unittest.main()
