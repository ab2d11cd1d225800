"""The things of schemes that have no schemes in them, for values that are known to fit."""

from pushedback.bags import bag_chance
from pushedback.copying import copied_chance
from pushedback.kinds import is_in_order, is_number, is_row_below
from pushedback.learning import learned_chance
from pushedback.learnkinds import is_possible
from pushedback.listings import bags_over, orders_below, sets_below, texts_over
from pushedback.mixing import mass_below
from pushedback.numberings import is_order, is_set_below
from pushedback.powers import choose, factorial_of, power
from pushedback.ratios import ratio
from pushedback.tables import is_letter, used_letters
from pushedback.treecoder import treed_chance


def learner_of(scheme):
    """The learner of a scheme that has one."""
    if scheme[0] == "mixed":
        return scheme[1][0]
    return scheme[1]


def leaf_holds(scheme, thing):
    """Whether any value is a thing of the scheme."""
    word = scheme[0]
    if word == "even":
        return is_number(thing) and thing < scheme[1]
    if word == "table":
        return is_letter(scheme[1], thing)
    if word == "set":
        return is_set_below(scheme[1], thing) and len(thing) == scheme[2]
    if word == "order":
        return is_order(thing) and len(thing) == scheme[1]
    if word == "copies":
        return is_row_below(scheme[1], thing) and len(thing) == scheme[4]
    if not is_possible(learner_of(scheme), thing) or len(thing) != scheme[-1]:
        return False
    return word != "bag" or is_in_order(thing)


def text_chance(scheme, thing):
    """The chance of a thing of a scheme whose things are texts."""
    word = scheme[0]
    if word == "learned":
        return learned_chance(scheme[1], thing)
    if word == "treed":
        return treed_chance(scheme[1], scheme[2], scheme[3], thing)
    if word == "mixed":
        return mass_below(scheme[1], scheme[2], thing, ())
    if word == "bag":
        return bag_chance(scheme[1], thing)
    return copied_chance(scheme[1], scheme[2], scheme[3], thing)


def leaf_chance(scheme, thing):
    """The chance of a thing of the scheme."""
    word = scheme[0]
    if word == "even":
        return 1, scheme[1]
    if word == "table":
        return ratio(scheme[1][thing], sum(scheme[1]))
    if word == "set":
        return 1, choose(scheme[1], scheme[2])
    if word == "order":
        return 1, factorial_of(scheme[1])
    return text_chance(scheme, thing)


def leaf_things(scheme):
    """A list of all things of the scheme."""
    word = scheme[0]
    if word == "even":
        return list(range(scheme[1]))
    if word == "table":
        return list(used_letters(scheme[1]))
    if word == "set":
        return sets_below(scheme[1], scheme[2])
    if word == "order":
        return orders_below(scheme[1])
    if word == "copies":
        return texts_over(list(range(scheme[1])), scheme[4])
    letters = used_letters(learner_of(scheme)[1])
    if word == "bag":
        return bags_over(letters, scheme[-1])
    return texts_over(letters, scheme[-1])


def leaf_count(scheme):
    """How many things the scheme has."""
    word = scheme[0]
    if word == "even":
        return scheme[1]
    if word == "table":
        return len(used_letters(scheme[1]))
    if word == "set":
        return choose(scheme[1], scheme[2])
    if word == "order":
        return factorial_of(scheme[1])
    if word == "copies":
        return power(scheme[1], scheme[4])
    letters = len(used_letters(learner_of(scheme)[1]))
    if word == "bag":
        return choose(letters + scheme[-1] - 1, scheme[-1])
    return power(letters, scheme[-1])
