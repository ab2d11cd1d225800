"""The things of schemes: which they are, with what chance, and how many."""

from pushedback.guards import need
from pushedback.kinds import is_pair
from pushedback.leafthings import leaf_chance, leaf_count, leaf_holds, leaf_things
from pushedback.listings import rows_across
from pushedback.ratios import NOUGHT, WHOLE, ratio, ratio_product, ratio_sum
from pushedback.schemekinds import is_scheme
from pushedback.tables import is_letter, used_letters


def holds(scheme, thing):
    """Whether any value is a thing of a scheme that is known to be one."""
    word = scheme[0]
    if word == "row":
        return holds_row(scheme[1], thing)
    if word == "choice":
        if not is_pair(thing) or not is_letter(scheme[1], thing[0]):
            return False
        return holds(scheme[2][thing[0]], thing[1])
    if word == "hidden":
        return any([holds(scheme[2][letter], thing) for letter in used_letters(scheme[1])])
    return leaf_holds(scheme, thing)


def holds_row(schemes, thing):
    """Whether any value is a tuple with one thing of each of the schemes."""
    if not isinstance(thing, tuple) or len(thing) != len(schemes):
        return False
    return all([holds(scheme, part) for scheme, part in zip(schemes, thing)])


def chance_by(scheme, thing):
    """The chance of a thing that is known to be one of the scheme."""
    word = scheme[0]
    if word == "row":
        chance = WHOLE
        for part, own in zip(scheme[1], thing):
            chance = ratio_product(chance, chance_by(part, own))
        return chance
    if word == "choice":
        return letter_chance(scheme, thing[0], thing[1])
    if word == "hidden":
        chance = NOUGHT
        for letter in used_letters(scheme[1]):
            if holds(scheme[2][letter], thing):
                chance = ratio_sum(chance, letter_chance(scheme, letter, thing))
        return chance
    return leaf_chance(scheme, thing)


def letter_chance(scheme, letter, thing):
    """The chance of the letter by the scheme's table, times that of the thing by the scheme there."""
    table = scheme[1]
    return ratio_product(ratio(table[letter], sum(table)), chance_by(scheme[2][letter], thing))


def things_by(scheme):
    """A list of all things of a scheme that is known to be one."""
    word = scheme[0]
    if word == "row":
        return rows_across([things_by(part) for part in scheme[1]])
    if word == "choice":
        letters = used_letters(scheme[1])
        return [(letter, thing) for letter in letters for thing in things_by(scheme[2][letter])]
    if word == "hidden":
        return hidden_things([scheme[2][letter] for letter in used_letters(scheme[1])])
    return leaf_things(scheme)


def hidden_things(schemes):
    """A list of all things of the schemes, each once."""
    things = []
    for at in range(len(schemes)):
        # a thing of several schemes is told at the first of them
        things.extend([thing for thing in things_by(schemes[at]) if not holds_any(schemes[:at], thing)])
    return things


def holds_any(schemes, thing):
    """Whether the thing is one of some of the schemes."""
    return any([holds(scheme, thing) for scheme in schemes])


def count_by(scheme):
    """How many things a scheme has that is known to be one."""
    word = scheme[0]
    if word == "row":
        count = 1
        for part in scheme[1]:
            count = count * count_by(part)
        return count
    if word == "choice":
        return sum([count_by(scheme[2][letter]) for letter in used_letters(scheme[1])])
    if word == "hidden":
        return len(things_by(scheme))
    return leaf_count(scheme)


def is_thing(scheme, thing):
    """Whether any value is a thing of the scheme."""
    need(is_scheme(scheme), "scheme")
    return holds(scheme, thing)


def chance_in(scheme, thing):
    """The thing's chance, nought for any value that is no thing of the scheme."""
    need(is_scheme(scheme), "scheme")
    if not holds(scheme, thing):
        return NOUGHT
    return chance_by(scheme, thing)


def things_of(scheme):
    """A list of all things of the scheme, each once."""
    need(is_scheme(scheme), "scheme")
    return things_by(scheme)


def how_many(scheme):
    """How many things the scheme has."""
    need(is_scheme(scheme), "scheme")
    return count_by(scheme)
