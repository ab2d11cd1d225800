"""The mixture over all trees of contexts."""

from pushedback.contexts import letters_met
from pushedback.guards import need
from pushedback.kinds import is_row_below
from pushedback.learning import learned_chance
from pushedback.learnkinds import is_ahead, is_model, is_possible
from pushedback.ratios import WHOLE, lowest_shares, ratio_less, ratio_product, ratio_sum


def need_model(model, ahead):
    """Refuse the first of a model and what stands ahead that is not as it has to be."""
    need(is_model(model), "model")
    need(is_ahead(model[0], model[1], ahead), "ahead")


def is_context(model, thing):
    """Whether the thing is a text over the model's letters, at most as long as the model is deep."""
    return is_row_below(len(model[0][1]), thing) and len(thing) <= model[1]


def mass_below(model, ahead, text, context):
    """The mass at a context, for parameters that are known to fit."""
    learner, depth, share = model
    met = letters_met(context, ahead, text)
    # a context at which nothing is met has the mass 1, however deep it goes on below
    if len(met) == 0:
        return WHOLE
    own = learned_chance(learner, met)
    if len(context) == depth:
        return own
    rest = ratio_less(WHOLE, share)
    for letter in range(len(learner[1])):
        rest = ratio_product(rest, mass_below(model, ahead, text, context + (letter,)))
    return ratio_sum(ratio_product(share, own), rest)


def mixed_table(model, ahead, text):
    """What table_mixed gives, for parameters that are known to fit."""
    letters = range(len(model[0][1]))
    # a letter whose start is 0 has the chance nought here of itself
    chances = [mass_below(model, ahead, text + (letter,), ()) for letter in letters]
    return lowest_shares(chances)


def mass_at(model, ahead, text, context):
    """The mass of the text at the context."""
    need_model(model, ahead)
    need(is_possible(model[0], text), "text")
    need(is_context(model, context), "context")
    return mass_below(model, ahead, text, context)


def chance_mixed(model, ahead, text):
    """The chance of the text under the model."""
    need_model(model, ahead)
    need(is_possible(model[0], text), "text")
    return mass_below(model, ahead, text, ())


def table_mixed(model, ahead, text):
    """The lowest whole numbers of the chances of the text with each letter put behind it."""
    need_model(model, ahead)
    need(is_possible(model[0], text), "text")
    return mixed_table(model, ahead, text)
