"""What the document promises over the whole program: its general rules and its guarantees."""

import copy
import importlib
import inspect
import subprocess
import sys
import unittest
from fractions import Fraction

from pushedback import errors
from pushedback.bags import pop_bag, push_bag
from pushedback.chains import turned_back, turned_by
from pushedback.checks import pop_check, push_check
from pushedback.copying import pop_copied, push_copied
from pushedback.digitrows import row_of, stack_of
from pushedback.endless import pop_endless, pop_long, push_endless, push_long
from pushedback.evens import pop_between, pop_even, pop_evens, push_between, push_even, push_evens
from pushedback.eventreadings import read_log
from pushedback.framing import frames_in
from pushedback.leans import lean_holds
from pushedback.learning import pop_learned, push_learned
from pushedback.live import LiveStack
from pushedback.lossclasses import Plan
from pushedback.mixcoder import pop_mixed, push_mixed
from pushedback.packing import blocks_of, pieces_in, stack_of_blocks
from pushedback.parses import chance_of_parse, pop_parse, push_parse
from pushedback.parsing import chance_parsed, parses_of, pop_parsed, push_parsed
from pushedback.quotients import plus
from pushedback.registerclasses import Register
from pushedback.rowcoder import pop_letters, push_letters
from pushedback.schemeclasses import Scheme
from pushedback.schemecoder import pop_thing, push_thing
from pushedback.schemeleans import has_lean, lean_of_thing
from pushedback.schemetexts import scheme_line
from pushedback.stackclasses import Rowed, Stack
from pushedback.strips import pop_strip, push_strip
from pushedback.tableclasses import Table
from pushedback.tablecoder import pop_by, push_by
from pushedback.things import chance_in, things_of
from pushedback.treecoder import pop_treed, push_treed
from pushedback.turnclasses import Ringed, Turning
from tests.parsings import CHAIN, EMPTY, HALF, MANY, TWOS
from tests.schemes import COIN, EITHER, LEARNER, SCHEMES, TALL
from tests.test_interface import CLASSES, FUNCTIONS
from tests.test_language import files

BIG = 10 ** 59 + 7
MODEL = (LEARNER, 1, (1, 2))
PLAN = ((1, 0), (1, 1), (1, 2))
STACKS = list(range(70)) + [10 ** 20, 10 ** 34 + 7]
# each exchange: its push of a thing onto a stack, its pop, and some things
EXCHANGES = (
    (lambda stack, thing: push_even(stack, 6, thing), lambda stack: pop_even(stack, 6), range(6)),
    (lambda stack, thing: push_evens(stack, (2, 1, 5), thing), lambda stack: pop_evens(stack, (2, 1, 5)), [(1, 0, 4)]),
    (lambda stack, thing: push_between(stack, -2, 3, thing), lambda stack: pop_between(stack, -2, 3), (-2, 0, 3)),
    (lambda stack, thing: push_by(stack, (2, 0, 1), thing), lambda stack: pop_by(stack, (2, 0, 1)), (0, 2)),
    (lambda stack, thing: push_strip(stack, (1, 0, 1, 5), thing), lambda stack: pop_strip(stack, (1, 0, 1, 5)), (0, 1, 5)),
    (lambda stack, thing: push_letters(stack, ((2, 1), (1, 3)), thing),
     lambda stack: pop_letters(stack, ((2, 1), (1, 3))), [(0, 0), (1, 1)]),
    (lambda stack, thing: push_endless(stack, 2, 3, thing), lambda stack: pop_endless(stack, 2, 3), (0, 1, 9)),
    (lambda stack, thing: push_long(stack, 1, 2, 10, thing), lambda stack: pop_long(stack, 1, 2, 10), (0, 7, BIG)),
    (lambda stack, thing: push_learned(stack, LEARNER, thing), lambda stack: pop_learned(stack, LEARNER, 3), [(0, 1, 1)]),
    (lambda stack, thing: push_treed(stack, LEARNER, TALL, (0, 1), thing),
     lambda stack: pop_treed(stack, LEARNER, TALL, (0, 1), 3), [(0, 1, 1), (1, 1, 0)]),
    (lambda stack, thing: push_mixed(stack, MODEL, (1,), thing), lambda stack: pop_mixed(stack, MODEL, (1,), 3), [(0, 1, 1)]),
    (lambda stack, thing: push_bag(stack, LEARNER, thing), lambda stack: pop_bag(stack, LEARNER, 4), [(0, 0, 1, 1)]),
    (lambda stack, thing: push_copied(stack, 2, 2, (1, 3), thing),
     lambda stack: pop_copied(stack, 2, 2, (1, 3), 4), [(0, 0, 0, 1)]),
    (lambda stack, thing: push_parse(stack, MANY, thing), lambda stack: pop_parse(stack, MANY), [(2, ()), (1, ((1, ()),))]),
    (lambda stack, thing: push_parse(stack, EMPTY, thing), lambda stack: pop_parse(stack, EMPTY), [(0, ()), (2, ((0, ()),))]),
    (lambda stack, thing: push_parse(stack, CHAIN, thing), lambda stack: pop_parse(stack, CHAIN), []),
    (lambda stack, thing: push_parsed(stack, TWOS, thing), lambda stack: pop_parsed(stack, TWOS), [(0,), (0,) * 4]),
    (lambda stack, thing: push_parsed(stack, MANY, thing), lambda stack: pop_parsed(stack, MANY), [(1, 0, 0)]),
)
# values of the parameters, by their names, ahead of the thing that is judged
GOOD = {
    "base": 10, "letters": 3, "many": 4, "holder": (2, 4), "strip": (0, 1, 0, 1), "growths": ((2, 1), (2, 1)), "extra": 1,
    "scheme": EITHER, "most": 2, "grammar": TWOS, "size": 5, "plan": PLAN, "kept": (1,), "block": 0,
}


def odd_values():
    """Values of all kinds, some of them deep, long and great, and objects of the package."""
    deep = 7
    for _ in range(29):
        deep = (deep,)
    listed = []
    for _ in range(29):
        listed = [listed, 1]
    yield from (
        None, True, False, 0, 1, -1, BIG, -BIG, "", "0", "pop", "x" * 4000, (), [], [1], (0,), (1, 2), (True,), [(1, 2)],
        ((),), ((1, 1),), ((1, 1), (1, 1)), (None,), ("", ""), deep, listed, (deep, listed), tuple(range(5000)), (0,) * 5000,
        ((0, 1),) * 2000, ("push", deep), ("told", deep), ("ends", (deep,)), ("goes", (0,), (deep,)), ("exact",),
        ("slips", True, 3), ("strip", deep), ("over", BIG), ("over", True), ("alike", (True, 4)), (BIG, BIG), ((BIG, 1), BIG),
        ("row", ()), ("even", True), ("begin", 5, COIN), (("begin", 5, COIN), ("pop",)), (1, (1, 2)), (0, ()), [0, ()],
        (1, ((0, ()), (0, ()))), ("copy", 1, BIG), (("new", (0,)), ("copy", 1, BIG)), (4, 5, 5, PLAN), ((1, (0,)),),
        (((1, (0,)),),), Stack(5), Rowed(2, (1,)), Table(1, 2), Register(2, 4), Scheme(COIN), Plan(5, *PLAN), Ringed(),
        LiveStack(5, COIN), (Stack(5), Table(1)), [Plan(5, *PLAN)], ("push", Stack(5)), (Scheme(COIN), ()), ("told", Turning()),
    )


def judges():
    """Each function that judges a thing, with the values that stand ahead of it."""
    for module, listed in FUNCTIONS.items():
        for text in listed.replace("), ", ");").split(";"):
            name, parameters = text[:-1].split("(")
            parameters = parameters.split(", ")
            if "thing" in parameters and (name.startswith(("is_", "lets_")) or name == "chance_in"):
                function = getattr(importlib.import_module("pushedback." + module), name)
                yield name, function, [GOOD[parameter] for parameter in parameters[:-1]]


class GeneralRulesTest(unittest.TestCase):
    def test_any_value_is_judged(self):
        names = []
        for name, function, ahead in judges():
            names.append(name)
            for thing in odd_values():
                kept = repr(thing) if isinstance(thing, list) else None
                try:
                    told = function(*ahead, thing)
                except errors.InvalidPaper as error:
                    self.assertTrue(name.startswith("lets_"), name)
                    self.assertIs(type(error.word), str)
                    self.assertIn(type(error.at), (int, tuple))
                else:
                    if name.startswith("is_"):
                        self.assertIs(type(told), bool, (name, thing))
                    if name == "chance_in":
                        self.assertEqual(told, (5, 8) if thing is not True and thing == 0 and type(thing) is int else
                                         (3, 8) if type(thing) is int and thing == 1 else (0, 1))
                self.assertEqual(kept, repr(thing) if isinstance(thing, list) else None)
        self.assertGreater(len(names), 35)

    def test_lists_are_new(self):
        for call in (
            lambda: frames_in(4, (3, 0, 3)), lambda: parses_of(TWOS, (0, 0, 0)), lambda: things_of(EITHER),
            lambda: pieces_in((4, 5, 5, PLAN), ((3, 0, 3),)),
        ):
            first, second = call(), call()
            self.assertIs(type(first), list)
            self.assertIsNot(first, second)
            self.assertEqual(first, second)
            kept = copy.deepcopy(second)
            first.append(None)
            first.clear()
            self.assertEqual(second, kept)
            self.assertEqual(call(), kept)

    def test_arguments_stay(self):
        lines = ["begin 5 even 6", "pop", "push 3"]
        read_log(lines)
        self.assertEqual(lines, ["begin 5 even 6", "pop", "push 3"])
        thing = ["push", [0, ()]]
        for name, function, ahead in judges():
            try:
                function(*ahead, thing)
            except errors.InvalidPaper:
                pass
            self.assertEqual(thing, ["push", [0, ()]])

    def test_modules_alone(self):
        """Each module can be imported first, and none gives a warning."""
        modules = ["pushedback." + name[:-3] for name in files() if name != "__init__.py"]
        code = (
            "import sys, importlib\n"
            f"for module in {modules!r}:\n"
            "    for name in [name for name in sys.modules if name.startswith('pushedback')]:\n"
            "        del sys.modules[name]\n"
            "    importlib.import_module(module)\n")
        told = subprocess.run([sys.executable, "-B", "-W", "error", "-c", code], capture_output=True, text=True, check=False)
        self.assertEqual((told.returncode, told.stdout, told.stderr), (0, "", ""))

    def test_errors_keep_their_fields(self):
        for name, made in inspect.getmembers(errors, inspect.isclass):
            fields = list(inspect.signature(made.__init__).parameters)[1:]
            if "args" not in fields:
                given = [[], {}, (None,)][:len(fields)]
                error = made(*given)
                for field, value in zip(fields, given):
                    self.assertIs(getattr(error, field), value)
                self.assertIsInstance(error, errors.PushError)
        self.assertEqual(len(CLASSES), 10)


class GuaranteesTest(unittest.TestCase):
    def test_each_push_has_its_pop(self):
        for push, pop, things in EXCHANGES:
            for stack in STACKS:
                try:
                    thing, left = pop(stack)
                except errors.NotUsable as error:
                    self.assertEqual((error.word, error.at), ("stack", -1))
                else:
                    self.assertEqual(push(left, thing), stack)
                for thing in things:
                    self.assertEqual(pop(push(stack, thing)), (thing, stack))

    def test_pushes_are_apart(self):
        """No two pairs of a thing and a stack are pushed to the same."""
        for push, pop, things in EXCHANGES:
            after = [push(stack, thing) for thing in things for stack in range(40)]
            self.assertEqual(len(after), len(set(after)))

    def test_tables_and_strips_give_at_least_the_stack(self):
        for stack in STACKS:
            for letter in (0, 2):
                self.assertGreaterEqual(push_by(stack, (2, 0, 1), letter), stack)
            for letter in (0, 1):
                self.assertGreaterEqual(push_strip(stack, (1, 0, 1, 1), letter), stack)

    def test_schemes(self):
        for scheme in SCHEMES:
            things = things_of(scheme)
            total = (0, 1)
            for thing in things:
                total = plus(total, chance_in(scheme, thing))
            self.assertEqual(total, (1, 1))
            for thing in things[:4]:
                for stack in (0, 1, 2, 35, BIG):
                    after = push_thing(stack, scheme, thing)
                    self.assertEqual(pop_thing(after, scheme), (thing, stack))
                    if has_lean(scheme):
                        self.assertIs(lean_holds(lean_of_thing(scheme, thing), stack, after), True)
                top, bottom = chance_in(scheme, thing)
                told = push_thing(10 ** 50, scheme, thing) * top - bottom * 10 ** 50
                self.assertLess(abs(told), 10 ** 25)

    def test_grammars(self):
        for grammar in (TWOS, MANY, HALF):
            for text in ((0,), (0, 0), (1, 0), (1, 0, 0), (BIG,)):
                chances = [Fraction(*chance_of_parse(grammar, parse)) for parse in parses_of(grammar, text)]
                self.assertEqual(Fraction(*chance_parsed(grammar, text)), sum(chances))

    def test_turnings_and_numberings(self):
        chain = (("turned",), ("columns", 3), ("fronts",), ("lifted", ((1, -1, 2), (0, 1, 4))), ("backward",), ("unturned",))
        for stack in range(300):
            text = row_of(3, stack)
            self.assertEqual(stack_of(3, text), stack)
            self.assertEqual(turned_back(chain, 3, turned_by(chain, 3, text)), text)
            self.assertEqual(stack_of_blocks(3, blocks_of(3, 2, stack)), stack)
            self.assertEqual(pop_check(push_check(stack, 7), 7), stack)

    def test_lines(self):
        for scheme in SCHEMES:
            self.assertEqual(Scheme.read(scheme_line(scheme)).form_now, scheme)


if __name__ == "__main__":
    unittest.main()
