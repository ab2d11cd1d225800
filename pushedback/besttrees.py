"""The trees that are worth most for a text under a model."""

from pushedback.contexts import letters_met, prior_below, trees_up_to
from pushedback.guards import need
from pushedback.learning import learned_chance
from pushedback.learnkinds import is_possible
from pushedback.mixing import mass_below, need_model
from pushedback.ratios import WHOLE, ratio_by, ratio_less, ratio_order, ratio_product
from pushedback.treecoder import treed_chance


def need_text(model, ahead, text):
    """Refuse the first of a model, what stands ahead and a text that is not as it has to be."""
    need_model(model, ahead)
    need(is_possible(model[0], text), "text")


def best_below(model, ahead, text, context):
    """A tree of the greatest worth from the context on, and this worth."""
    learner, depth, share = model
    own = learned_chance(learner, letters_met(context, ahead, text))
    if len(context) == depth:
        return (), own
    leaf_worth = ratio_product(share, own)
    worth = ratio_less(WHOLE, share)
    parts = []
    for letter in range(len(learner[1])):
        part, part_worth = best_below(model, ahead, text, context + (letter,))
        parts.append(part)
        worth = ratio_product(worth, part_worth)
    if ratio_order(leaf_worth, worth) >= 0:
        return (), leaf_worth
    return tuple(parts), worth


def worth_of(model, ahead, text, tree):
    """The prior of a tree, times the chance of the text under it."""
    learner, depth, share = model
    # of ahead only as many letters are looked at as the tree is deep, so it may stay as long as it is
    return ratio_product(prior_below(share, depth, tree), treed_chance(learner, tree, ahead, text))


def best_tree(model, ahead, text):
    """A tree of the greatest worth."""
    need_text(model, ahead, text)
    return best_below(model, ahead, text, ())[0]


def best_worth(model, ahead, text):
    """The greatest worth of a tree."""
    need_text(model, ahead, text)
    return best_below(model, ahead, text, ())[1]


def tree_shares(model, ahead, text):
    """The pairs of a tree and its share of the text's chance, trees ascending, without those of share 0."""
    need_text(model, ahead, text)
    whole = mass_below(model, ahead, text, ())
    shares = []
    for tree in trees_up_to(len(model[0][1]), model[1]):
        worth = worth_of(model, ahead, text, tree)
        if worth[0] > 0:
            shares.append((tree, ratio_by(worth, whole)))
    return tuple(shares)
