"""Hidden choices: which of the schemes can have made a thing, and popping one of them."""

from pushedback.exchanges import popped_by
from pushedback.guards import need
from pushedback.kinds import is_number
from pushedback.ratios import NOUGHT, lowest_shares
from pushedback.schemekinds import is_scheme
from pushedback.tables import used_letters
from pushedback.things import holds, letter_chance


def need_hidden(scheme, thing):
    """Refuse the first of a hidden scheme and a thing of it that is not as it has to be."""
    need(is_scheme(scheme) and scheme[0] == "hidden", "scheme")
    need(holds(scheme, thing), "thing")


def picked_letters(scheme, thing):
    """What picks_of gives, for parameters that are known to fit."""
    return tuple([letter for letter in used_letters(scheme[1]) if holds(scheme[2][letter], thing)])


def picking_table(scheme, thing):
    """What pick_table gives, for parameters that are known to fit."""
    # each share is the count by the table's sum instead of the count, which leaves their proportion
    shares = [NOUGHT for _ in scheme[1]]
    for letter in picked_letters(scheme, thing):
        shares[letter] = letter_chance(scheme, letter, thing)
    return lowest_shares(shares)


def picks_of(scheme, thing):
    """The set of the letters of whose schemes the thing is one."""
    need_hidden(scheme, thing)
    return picked_letters(scheme, thing)


def pick_table(scheme, thing):
    """The table by which the letter of a hidden thing is popped."""
    need_hidden(scheme, thing)
    return picking_table(scheme, thing)


def thing_by(stack, scheme, thing):
    """The letter that pushing the thing pops, and the stack just after that."""
    need(is_number(stack), "stack")
    need_hidden(scheme, thing)
    return popped_by(stack, picking_table(scheme, thing))
