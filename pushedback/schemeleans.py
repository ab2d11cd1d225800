"""Leans of the things of schemes."""

from pushedback.guards import need
from pushedback.hiddens import picked_letters, picking_table
from pushedback.leafcoder import digit_of
from pushedback.leafthings import leaf_count
from pushedback.leans import lean_back, leans_joined
from pushedback.learning import learned_tables
from pushedback.mixcoder import mixed_tables
from pushedback.ratios import NOUGHT, WHOLE, ratio_order
from pushedback.rowcoder import lean_by, lean_of_row
from pushedback.schemekinds import is_scheme
from pushedback.tables import used_letters
from pushedback.things import holds
from pushedback.treecoder import treed_tables


def leans_in(scheme):
    """What has_lean tells, for a scheme that is known to be one."""
    word = scheme[0]
    if word == "row":
        return all([leans_in(part) for part in scheme[1]])
    if word in ("choice", "hidden"):
        return all([leans_in(scheme[2][letter]) for letter in used_letters(scheme[1])])
    return word not in ("bag", "copies")


def text_tables(scheme, thing):
    """The tables by which the letters of a text go."""
    word = scheme[0]
    if word == "learned":
        return learned_tables(scheme[1], thing)
    if word == "treed":
        return treed_tables(scheme[1], scheme[2], scheme[3], thing)
    return mixed_tables(scheme[1], scheme[2], thing)


def lean_in_leaf(scheme, thing):
    """The lean of a thing of a scheme that has no schemes in it."""
    word = scheme[0]
    if word == "table":
        return lean_by(scheme[1], thing)
    if word in ("learned", "treed", "mixed"):
        return lean_of_row(tuple(text_tables(scheme, thing)), thing)
    digit = (digit_of(scheme, thing), 1)
    return (leaf_count(scheme), 1), digit, digit


def lean_in(scheme, thing):
    """What lean_of_thing gives, for parameters that are known to fit."""
    word = scheme[0]
    if word == "row":
        lean = (WHOLE, NOUGHT, NOUGHT)
        for at in range(len(thing) - 1, -1, -1):
            lean = leans_joined(lean, lean_in(scheme[1][at], thing[at]))
        return lean
    if word == "choice":
        return lean_chosen(scheme, thing[0], thing[1])
    if word == "hidden":
        return lean_hidden(scheme, thing)
    return lean_in_leaf(scheme, thing)


def lean_chosen(scheme, letter, thing):
    """The lean of pushing the thing by the scheme at the letter, then the letter."""
    return leans_joined(lean_in(scheme[2][letter], thing), lean_by(scheme[1], letter))


def lean_hidden(scheme, thing):
    """The lean that holds whichever letter is popped on the way."""
    table = picking_table(scheme, thing)
    letters = picked_letters(scheme, thing)
    leans = [leans_joined(lean_back(lean_by(table, letter)), lean_chosen(scheme, letter, thing)) for letter in letters]
    growth, low, high = leans[0]
    for lean in leans[1:]:
        if ratio_order(lean[1], low) < 0:
            low = lean[1]
        if ratio_order(lean[2], high) > 0:
            high = lean[2]
    return growth, low, high


def has_lean(scheme):
    """Whether the things of the scheme have leans."""
    need(is_scheme(scheme), "scheme")
    return leans_in(scheme)


def lean_of_thing(scheme, thing):
    """The lean of pushing the thing."""
    need(is_scheme(scheme) and leans_in(scheme), "scheme")
    need(holds(scheme, thing), "thing")
    return lean_in(scheme, thing)
