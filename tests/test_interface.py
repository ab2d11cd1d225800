"""The names and parameters of the interface, and where they are defined."""

import ast
import importlib
import inspect
import os
import unittest

import pushedback

FUNCTIONS = {
    "kinds": (
        "is_integer(thing), is_number(thing), is_base(thing), is_quotient(thing), is_digits(base, thing), "
        "is_text(letters, thing), is_cuts(many, thing)"),
    "powers": (
        "power(base, many), common_of(one, other), multiple_of(numbers), choose(many, few), factorial_of(many)"),
    "quotients": (
        "plus(one, other), minus(one, other), times(one, other), over(one, other), raised(one, many), "
        "compare(one, other), least_whole(one), most_whole(one), total_of(quotients), shares_of(quotients)"),
    "reaches": "places_of(base, number), reach_of(base, one)",
    "digitrows": (
        "digits_of(base, number, many), number_of(base, digits), row_of(base, stack), stack_of(base, digits), "
        "added(base, stack, digits), taken(base, stack, many)"),
    "evens": (
        "push_even(stack, many, digit), pop_even(stack, many), push_evens(stack, sizes, digits), "
        "pop_evens(stack, sizes), push_between(stack, low, high, integer), pop_between(stack, low, high)"),
    "cutting": "cut_row(digits, cuts), joined(parts), all_cuts(many, parts)",
    "stacktexts": "stack_line(base, stack)",
    "stackreadings": "read_stack(text)",
    "tables": (
        "is_table(thing), is_strip(thing), sum_of(table), ahead_of(table, letter), letters_of(table), "
        "strip_of(table), table_of(strip)"),
    "tablecoder": "push_by(stack, table, letter), pop_by(stack, table)",
    "strips": (
        "push_strip(stack, strip, letter), pop_strip(stack, strip), places_in(strip, letter), "
        "reached(strip, letter, bound), sheet_of(strip)"),
    "sheetchecker": "lets_sheet(thing)",
    "leans": (
        "chance_of(table, letter), is_lean(thing), lean_of(strip, letter), lean_after(one, other), lean_back(one), "
        "lean_holds(lean, stack, after)"),
    "rowcoder": (
        "push_letters(stack, tables, letters), pop_letters(stack, tables), lean_of_row(tables, letters)"),
    "endless": (
        "push_endless(stack, stop, going, number), pop_endless(stack, stop, going), "
        "push_long(stack, stop, going, base, number), pop_long(stack, stop, going, base), "
        "chance_endless(stop, going, number), chance_long(stop, going, base, number)"),
    "evenstrips": "strip_by(growths), even_strip(table)",
    "claims": (
        "is_growths(thing), sum_of_growths(growths), claim_fits(growths, extra), pairs_below(growths, extra, bound), "
        "overdrawn(growths, extra)"),
    "claimpapers": "claim_paper(growths, extra)",
    "claimchecker": "lets_claim(growths, extra, thing)",
    "registerkinds": "is_register(thing), fits_register(holder, strip), is_state(holder, thing)",
    "stretches": (
        "stretch_of(holder, strip, letter), slips_at(holder, strip, letter), sticks_at(holder, strip, letter), "
        "is_exact(holder, strip), exact_rests(base, strip), exact_for_all(holder, many)"),
    "registercoder": "write_letter(holder, strip, state, heap, letter), read_letter(holder, strip, state, heap)",
    "faultpapers": "fault_paper(holder, strip)",
    "faultchecker": "lets_fault(holder, strip, thing)",
    "widening": "next_exact(holder, strip), next_for_all(holder, many)",
    "streams": "wide_of(holder), write_text(holder, strips, text), read_text(holder, strips, digits)",
    "severals": "write_several(holder, many, strips, text), read_several(holder, many, strips, digits)",
    "bulks": (
        "bulk_of(holder, state, heap), bulk_bounds(holder, strip, letter), heap_bounds(holder, strips, text)"),
    "learnkinds": "is_learner(thing), is_tree(letters, thing), is_share(thing), is_model(thing), depth_of(tree)",
    "learning": (
        "table_after(learner, text), chance_learned(learner, text), chance_of_counts(learner, counts), "
        "push_learned(stack, learner, text), pop_learned(stack, learner, many)"),
    "contexts": (
        "leaf_of(tree, past), contexts_of(letters, tree), met_at(context, ahead, text), trees_of(letters, depth), "
        "prior_of(share, depth, tree)"),
    "treecoder": (
        "table_treed(learner, tree, ahead, text), chance_treed(learner, tree, ahead, text), "
        "push_treed(stack, learner, tree, ahead, text), pop_treed(stack, learner, tree, ahead, many)"),
    "mixing": (
        "mass_at(model, ahead, text, context), chance_mixed(model, ahead, text), table_mixed(model, ahead, text)"),
    "mixcoder": "push_mixed(stack, model, ahead, text), pop_mixed(stack, model, ahead, many)",
    "besttrees": "best_tree(model, ahead, text), best_worth(model, ahead, text), tree_shares(model, ahead, text)",
    "modeltexts": "tree_line(letters, tree), model_line(model)",
    "modelreadings": "read_tree(text), read_model(text)",
    "schemekinds": "is_scheme(thing), levels_of(scheme)",
    "things": "is_thing(scheme, thing), chance_in(scheme, thing), things_of(scheme), how_many(scheme)",
    "numberings": (
        "set_rank(many, things), set_by(many, few, rank), order_rank(order), order_by(many, rank)"),
    "bags": (
        "bag_of(text), orders_of_bag(bag), chance_of_bag(learner, bag), push_bag(stack, learner, bag), "
        "pop_bag(stack, learner, many)"),
    "copying": (
        "is_spelling(letters, most, thing), text_of_spelling(spelling), "
        "chance_of_spelling(letters, most, pair, spelling), spellings_of(letters, most, text), "
        "chance_copied(letters, most, pair, text), push_copied(stack, letters, most, pair, text), "
        "pop_copied(stack, letters, most, pair, many)"),
    "schemecoder": "push_thing(stack, scheme, thing), pop_thing(stack, scheme)",
    "hiddens": "picks_of(scheme, thing), pick_table(scheme, thing), thing_by(stack, scheme, thing)",
    "schemeleans": "has_lean(scheme), lean_of_thing(scheme, thing)",
    "schemetexts": "scheme_line(scheme), thing_line(thing)",
    "schemereadings": "read_scheme(text), read_thing(text)",
    "grammarkinds": "is_grammar(thing), is_full(grammar)",
    "grammars": "met_symbols(grammar), ends_always(grammar), made_to_end(grammar)",
    "endpapers": "end_paper(grammar)",
    "endchecker": "lets_end(grammar, thing)",
    "parses": (
        "is_parse(grammar, thing), text_of_parse(grammar, parse), chance_of_parse(grammar, parse), "
        "push_parse(stack, grammar, parse), pop_parse(stack, grammar)"),
    "parsing": (
        "parses_of(grammar, text), chance_parsed(grammar, text), push_parsed(stack, grammar, text), "
        "pop_parsed(stack, grammar)"),
    "leastwords": "is_least(text), least_words(text)",
    "rings": "rings_of(text), text_of_rings(rings), turned(text), unturned(text)",
    "shifts": (
        "fronts_of(letters, text), text_of_fronts(letters, fronts), runs_of(text), text_of_runs(runs), "
        "by_columns(wide, digits), by_rows(wide, digits)"),
    "lifting": (
        "is_ladder(thing), lifted(ladder, samples), unlifted(ladder, samples), lifted_in(many, ladder, samples), "
        "unlifted_in(many, ladder, samples)"),
    "ranks": "number_of_integer(integer), integer_of_number(number), rank_of_text(text), text_by(counts, rank)",
    "chains": (
        "is_chain(thing), turned_by(chain, letters, text), turned_back(chain, letters, text), keeps_counts(chain)"),
    "fields": (
        "is_field(thing), is_plan(size, thing), is_blocks(size, many, thing), field_plus(size, one, other), "
        "field_minus(size, one, other), field_times(size, one, other), field_over(size, one, other), "
        "field_raised(size, one, other)"),
    "fieldrows": (
        "settled_rows(size, wide, rows), rank_in(size, wide, rows), sum_for(size, wide, rows, digits), "
        "apart_from(size, wide, rows, place)"),
    "mending": (
        "plan_by_points(size, points, many), pieces_of(size, plan, blocks), told_blocks(size, plan, kept), "
        "can_mend(size, plan, kept), mended(size, plan, kept, pieces), mending_sets(size, plan)"),
    "losspapers": "loss_paper(size, plan, kept, block)",
    "losschecker": "lets_loss(size, plan, kept, block, thing)",
    "checks": (
        "push_check(stack, modulus), pop_check(stack, modulus), is_spoilt(stack, modulus), "
        "seen_apart(base, modulus, one, other)"),
    "framing": (
        "stream_of(base, stacks), frames_in(base, scrap), starts_of(base, stream), "
        "shortest_loss(base, stream, many)"),
    "packing": (
        "is_setup(thing), blocks_of(size, many, stack), stack_of_blocks(size, blocks), packed(setup, stack), "
        "pieces_in(setup, scraps), unpacked(setup, scraps), shortest_break(setup, stream)"),
    "wholes": "sent(setup, scheme, ground, thing), received(setup, scheme, scraps)",
    "liveevents": "is_event(thing), is_log(thing)",
    "replaying": "replayed(log)",
    "eventtexts": "event_line(event), log_lines(log)",
    "eventreadings": "read_event(text), read_log(lines)",
}
CLASSES = {
    "stackclasses": {
        "Stack": (
            "__init__(self, number)", "__call__(self, many)", "with_even(self, many, digit)",
            "with_digits(self, base, digits)", "without(self, base, many)", "of_row(base, *digits)", "number_now",
            "__getitem__", "__str__", "__eq__"),
        "Rowed": (
            "__init__(self, base, digits)", "read(text)", "base_now", "digits_now", "__len__", "__iter__", "__str__",
            "__add__"),
    },
    "tableclasses": {
        "Table": (
            "__init__(self, *counts)", "counts_now", "sum_now", "letters_now", "strip_now",
            "pushed(self, stack, letter)", "popped(self, stack)", "lean(self, letter)", "chance(self, letter)",
            "__getitem__", "__contains__", "__len__", "__iter__", "__eq__", "__add__"),
        "Evened": (
            "__init__(self, *counts)", "counts_now", "sum_now", "letters_now", "strip_now",
            "pushed(self, stack, letter)", "popped(self, stack)", "lean(self, letter)", "chance(self, letter)",
            "__getitem__", "__contains__", "__len__", "__iter__", "__eq__", "__add__"),
    },
    "registerclasses": {
        "Register": (
            "__init__(self, base, least)", "base_now", "least_now", "form_now", "wide_now",
            "__call__(self, strip, letter)", "exact(self, strip)", "write_all(self, strips, text)",
            "read_all(self, strips, digits)", "wider(self, strip)", "__contains__", "__len__", "__str__", "__eq__",
            "least_for(cls, base, strip)"),
        "Ready": (
            "__init__(self, base, least, table)", "table_now", "strip_now", "written(self, text)",
            "text_in(self, many, digits)"),
    },
    "modelclasses": {
        "Mixed": (
            "__init__(self, model, ahead)", "model_now", "ahead_now", "learner_now", "depth_now", "share_now",
            "__call__(self, text)", "__getitem__", "push_on(self, stack, text)", "pop_off(self, stack, many)",
            "best(self, text)", "shares(self, text)", "__iter__", "__len__", "__contains__", "__str__", "__eq__",
            "read(text, *ahead)"),
        "Single": ("__init__(self, learner)", "by_counts(self, counts)"),
    },
    "schemeclasses": {
        "Scheme": (
            "__init__(self, form)", "form_now", "levels_now", "many_now", "pushed(self, stack, thing)",
            "popped(self, stack)", "chance(self, thing)", "lean(self, thing)", "__contains__", "__str__", "__eq__",
            "__add__", "read(text)"),
        "Hidden": (
            "__init__(self, counts, *schemes)", "picks(self, thing)", "table_for(self, thing)",
            "picked(self, stack, thing)"),
    },
    "turnclasses": {
        "Turning": (
            "__init__(self, *chain)", "chain_now", "__call__(self, letters, text)", "back(self, letters, text)",
            "__len__", "__iter__", "__contains__", "__invert__", "__add__", "undoing(cls, *chain)", "__eq__"),
        "Ringed": ("__init__(self)", "rings_for(self, text)"),
    },
    "lossclasses": {
        "Plan": (
            "__init__(self, size, *rows)", "size_now", "plan_now", "__call__(self, kept)", "__getitem__",
            "pieces(self, blocks)", "told(self, kept)", "mended(self, kept, pieces)", "paper(self, kept, block)",
            "__len__", "__iter__", "__contains__", "__eq__", "__add__"),
        "Points": ("__init__(self, size, many, *points)", "many_now", "points_now", "lacking(self, kept)"),
    },
    "live": {
        "LiveStack": (
            "__init__(self, ground, scheme)", "ground_now", "stack_now", "scheme_now", "push_on(self, thing)",
            "pop_off(self)", "change(self, scheme)", "feed(self, base, digits)", "back(self, base, many)",
            "go(self, event)", "barred(self, event)", "tried(self, *events)", "undo(self, steps=1)",
            "do_all(self, *events, keep=False)", "tally(self)", "log(self)", "__iter__", "__len__", "__getitem__",
            "__contains__", "__eq__"),
    },
    "gates": {
        "Gate": (
            "__init__(self, base)", "feed(self, digits)", "gap(self)", "frames_now", "waiting_now", "whole_now"),
        "Checked": ("__init__(self, base, modulus)", "feed(self, digits)", "spoilt_now"),
    },
    "desk": {
        "Desk": ("__init__(self)", "say(self, row)", "counts(self)"),
    },
}
DERIVED = {
    "Rowed": "Stack", "Evened": "Table", "Ready": "Register", "Single": "Mixed", "Hidden": "Scheme",
    "Ringed": "Turning", "Points": "Plan", "Checked": "Gate",
}


def definitions(module):
    """The functions and classes that the module's own file defines, by name."""
    path = os.path.join(os.path.dirname(pushedback.__file__), module + ".py")
    with open(path, encoding="ascii") as file:
        body = ast.parse(file.read()).body
    return {node.name: node for node in body if isinstance(node, (ast.FunctionDef, ast.ClassDef))}


class InterfaceTest(unittest.TestCase):
    def test_functions(self):
        for module, listed in FUNCTIONS.items():
            defined = definitions(module)
            for text in listed.replace("), ", ");").split(";"):
                name, parameters = text[:-1].split("(")
                function = getattr(importlib.import_module("pushedback." + module), name)
                self.assertEqual(list(inspect.signature(function).parameters), parameters.split(", "))
                self.assertIsInstance(defined[name], ast.FunctionDef)

    def test_classes(self):
        for module, classes in CLASSES.items():
            defined = definitions(module)
            for name, methods in classes.items():
                here = {node.name: node for node in defined[name].body if isinstance(node, ast.FunctionDef)}
                for method in methods:
                    method, _, parameters = method.partition("(")
                    self.assertIn(method, here)
                    if parameters:
                        self.assertEqual(f"({ast.unparse(here[method].args)})", "(" + parameters)
                    decorators = [part.id for part in here[method].decorator_list]
                    self.assertEqual("property" in decorators, method.endswith("_now"), method)
                bases = [base.id for base in defined[name].bases]
                self.assertEqual(bases, [DERIVED[name]] if name in DERIVED else [], name)

    def test_all_modules(self):
        self.assertFalse(set(FUNCTIONS) & set(CLASSES))
        self.assertEqual(len(FUNCTIONS) + len(CLASSES), 83)
        for module in list(FUNCTIONS) + list(CLASSES) + ["errors"]:
            path = os.path.join(os.path.dirname(pushedback.__file__), module + ".py")
            self.assertTrue(os.path.isfile(path), module)
        self.assertLessEqual(len(os.listdir(os.path.dirname(pushedback.__file__))), 100)


if __name__ == "__main__":
    unittest.main()
