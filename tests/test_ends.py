import itertools
import unittest

from pushedback.endchecker import lets_end
from pushedback.endpapers import end_paper
from pushedback.errors import InvalidPaper
from pushedback.grammars import ends_always, met_symbols
from tests.refusals import NO_NUMBER, check_refusals
from tests.test_grammars import BIG, GRAMMARS, LOOP, NO_GRAMMAR, TWOS, small_grammars

# from 0 on to 1, from there round and round by 1 and 2; 3 is not met
ROUND = (
    ((1, (0,)), (0, (-4,)), (2, (-2, 5))), ((0, ()), (1, (-3, -3)), (1, ())), ((3, (-2, -1)),), ((1, (-4,)),),
)
# from 0 it takes a way by symbols that end, to symbols in whose first rules some symbols end and others do not
FAR = (
    (((1, (0,)), (1, (-2, 0))), ((1, (0,)), (1, (-1, -3))), ((1, (1,)), (1, (-4,))), ((1, (-4,)),)),
    (((1, (0,)), (1, (-1, -2))), ((1, (0,)), (1, (-1, -3))), ((1, (-1, -2, -4)),), ((1, (-2, -3, -1)), (1, (0,)))),
    (((1, (-3,)), (1, (-2,))), ((1, (-3,)), (0, (-5,)), (1, (-4,))), ((1, ()),), ((1, (-3,)), (1, (-5,))), ((1, (-3, -5)),)),
    (((1, (-2, -3)), (1, (-2, -4))), ((1, ()),), ((1, (-2,)),), ((1, (-2, -5)),), ((1, (-3, -6)),), ((1, (-2, -4, -3)),)),
)
NO_SHAPE = (
    None, True, 0, "", "ends", [], (), ("ends",), ("goes",), ("ends", None), ("ends", 0), ("ends", [0]),
    ["ends", (0,)], ("ends", (0,), (0,)), ("goes", (0,)), ("goes", (0,), [0]), ("goes", [0], (0,)), ("goes", 0, (0,)),
    ("goes", (0,), (0,), (0,)), ("Ends", (0,)), ("end", (0,)), (("ends",), (0,)), (None, (0,)), (["ends"], (0,)),
    ("ends", (0,), ()), ("", (0,), (0,)), ("goes", (0,), None), ["goes", (0,), (0,)], ((0,), "ends"), ("goes", (), ()),
)


def firsts_of(symbol):
    """The symbols in the first rule of a symbol."""
    body = next(body for count, body in symbol if count)
    return [-1 - part for part in body if part < 0]


def nexts_of(symbol):
    """The symbols in the rules of a symbol with a count above 0."""
    return [-1 - part for count, body in symbol if count for part in body if part < 0]


def is_true(grammar, paper):
    """Whether a paper of the right shape is as end_paper tells, step by step."""
    if paper[0] == "ends":
        symbols = paper[1]
        if sorted(symbols) != list(met_symbols(grammar)):
            return False
        return all(set(firsts_of(grammar[symbol])) <= set(symbols[:at]) for at, symbol in enumerate(symbols))
    _, way, ring = paper
    if not way or not ring or way[0] != 0 or ring[0] != way[-1]:
        return False
    goes = all(way[at + 1] in nexts_of(grammar[way[at]]) for at in range(len(way) - 1))
    around = all(
        ring[at] in firsts_of(grammar[ring[at - 1]]) for at in range(len(ring)))
    return goes and around


class EndsTest(unittest.TestCase):
    def entry(self, grammar, thing):
        with self.assertRaises(InvalidPaper) as caught:
            lets_end(grammar, thing)
        return caught.exception.word, caught.exception.at

    def check(self, grammar):
        paper = end_paper(grammar)
        self.assertIs(type(paper), tuple)
        self.assertTrue(all(type(part) is tuple for part in paper[1:]))
        self.assertEqual(paper[0], "ends" if ends_always(grammar) else "goes")
        self.assertEqual(len(paper), 2 if ends_always(grammar) else 3)
        self.assertTrue(is_true(grammar, paper), (grammar, paper))
        self.assertEqual(lets_end(grammar, paper), paper[0])

    def test_papers(self):
        for grammar in GRAMMARS + (ROUND,) + FAR:
            self.check(grammar)
        for grammar in small_grammars():
            self.check(grammar)

    def test_papers_of_four_symbols(self):
        bodies = ((0,), (-1, -2), (-3, 1), (-4,), (-2, -4), (-3, -3, 0, -1), ())
        rows = list(itertools.product(bodies, repeat=2))
        for at in range(600):
            places = [(at * step + at * at) % len(rows) for step in (1, 5, 11, 23)]
            self.check(tuple(
                ((at % 2 + number % 3 % 2, rows[place][0]), (1, rows[place][1]))
                for number, place in enumerate(places)))

    def test_just_what_is_true_is_accepted(self):
        rows = [row for many in range(4) for row in itertools.product(range(2), repeat=many)]
        for grammar in itertools.islice(small_grammars(), 0, None, 53):
            papers = [("ends", row) for row in rows]
            papers += [("goes", way, ring) for way in rows for ring in rows]
            for paper in papers:
                if is_true(grammar, paper):
                    self.assertEqual(lets_end(grammar, paper), paper[0])
                else:
                    self.assertIn(self.entry(grammar, paper)[0], (
                        "symbol", "first", "left", "way", "ring", "back"))

    def test_shape(self):
        for thing in NO_SHAPE[:-1]:
            self.assertEqual(self.entry(TWOS, thing), ("shape", -1), thing)
        self.assertEqual(self.entry(TWOS, NO_SHAPE[-1]), ("way", -1))

    def test_ends(self):
        grammar = (((0, (-1,)), (1, (-2, -3, -2))), ((1, (-3,)), (1, (-1,))), ((2, ()),), ((1, ()),))
        self.assertEqual(lets_end(grammar, ("ends", (2, 1, 0))), "ends")
        for told, entry in (
            ((), ("left", 0)), ((2,), ("left", 0)), ((2, 1), ("left", 0)), ((0,), ("first", 0)), ((2, 0), ("first", 1)),
            ((1, 2, 0), ("first", 0)), ((2, 2), ("symbol", 1)), ((2, 1, 0, 0), ("symbol", 3)), ((3,), ("symbol", 0)),
            ((2, 1, 3, 0), ("symbol", 2)), ((2, 4, None), ("symbol", 1)), ((0, 2, 2), ("first", 0)),
            ((2, True, 0), ("symbol", 1)), ((2, 1, False), ("symbol", 2)), (("2", 0), ("symbol", 0)),
            ((2, (1,), 0), ("symbol", 1)), ((2, -1, 0), ("symbol", 1)), ((2, [1]), ("symbol", 1)), ((BIG,), ("symbol", 0)),
        ):
            self.assertEqual(self.entry(grammar, ("ends", told)), entry, told)
        # a symbol that is met by a later rule alone
        self.assertEqual(self.entry((((1, (0,)), (1, (-2,))), ((1, ()),)), ("ends", (0,))), ("left", 1))
        # a rule of count 0 is no first rule, and meets nothing
        self.assertEqual(lets_end((((0, (-2,)), (1, (0,))), ((1, (-2,)),)), ("ends", (0,))), "ends")
        self.assertEqual(lets_end(TWOS, ("ends", (0,))), "ends")
        self.assertEqual(self.entry(LOOP, ("ends", (1, 0))), ("first", 0))

    def test_goes(self):
        for way, ring in (
            ((0, 1), (1, 2)), ((0, 1, 2), (2, 1)), ((0, 1, 2, 1), (1, 2, 1, 2)), ((0, 1, 2, 0, 1), (1, 2)),
        ):
            self.assertEqual(lets_end(ROUND, ("goes", way, ring)), "goes")
        for way, ring, entry in (
            ((), (1, 2), ("way", -1)), ((1,), (1, 2), ("way", 0)), ((0, 0), (0,), ("way", 1)), ((0, 2), (2, 1), ("way", 1)),
            ((0, 1, 1), (1, 2), ("way", 2)), ((0, 3), (3,), ("way", 1)), ((0, 4), (4,), ("way", 1)),
            ((False, 1), (1, 2), ("way", 0)), ((0, True), (1, 2), ("way", 1)), ((0, None), (1, 2), ("way", 1)),
            ((0, "1"), (1, 2), ("way", 1)), ((0, -2), (1, 2), ("way", 1)), ((0, [1]), (1, 2), ("way", 1)),
            ((0, 1), (), ("ring", -1)), ((0, 1), (2, 1), ("ring", 0)), ((0, 1), (True, 2), ("ring", 0)),
            ((0, 1), (1, 1), ("ring", 1)), ((0, 1), (1, 2, 2), ("ring", 2)), ((0, 1), (1, 2, None), ("ring", 2)),
            ((0, 1), (1, (2,)), ("ring", 1)), ((0, 1), (1, 4), ("ring", 1)), ((0, 1), (1, BIG), ("ring", 1)),
            ((0, 1), (1,), ("back", -1)), ((0, 1), (1, 2, 1), ("back", -1)), ((0,), (0,), ("back", -1)),
            ((), (), ("way", -1)), ((5,), (), ("way", 0)),
            # in the first rule of 2 symbol 0 stands, but in that of 0 no symbol
            ((0, 1, 2), (2, 0), ("back", -1)), ((0,), (0, 1), ("ring", 1)),
        ):
            self.assertEqual(self.entry(ROUND, ("goes", way, ring)), entry, (way, ring))
        for number in NO_NUMBER:
            self.assertEqual(self.entry(ROUND, ("goes", (0, number), (1, 2))), ("way", 1))
            self.assertEqual(self.entry(ROUND, ("goes", (0, 1), (1, number))), ("ring", 1))
        self.assertEqual(self.entry(TWOS, ("goes", (0,), (0,))), ("back", -1))
        self.assertEqual(lets_end((((1, (-1,)),),), ("goes", (0, 0), (0, 0, 0))), "goes")

    def test_refusals(self):
        check_refusals(self, end_paper, {"grammar": LOOP}, {"grammar": NO_GRAMMAR})
        check_refusals(self, lets_end, {"grammar": TWOS, "thing": ("ends", (0,))}, {"grammar": NO_GRAMMAR})


if __name__ == "__main__":
    unittest.main()
