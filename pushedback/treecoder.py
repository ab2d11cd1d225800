"""Texts under a tree of contexts: a learner's table of its own at each leaf."""

from pushedback.contexts import leaf_context, letters_met
from pushedback.exchanges import popped_by, pushed_row, row_chance
from pushedback.guards import need
from pushedback.kinds import is_number
from pushedback.learning import learned_table
from pushedback.learnkinds import is_ahead, is_learner, is_possible, is_tree_of, tree_depth


def need_treed(learner, tree, ahead):
    """Refuse the first of a learner, a tree and what stands ahead that is not as it has to be."""
    need(is_learner(learner), "learner")
    need(is_tree_of(len(learner[1]), tree), "tree")
    need(is_ahead(learner, tree_depth(tree), ahead), "ahead")


def treed_table(learner, tree, ahead, text):
    """The table for a letter behind the text, for parameters that are known to fit."""
    context = leaf_context(tree, ahead + text)
    return learned_table(learner, letters_met(context, ahead, text))


def treed_tables(learner, tree, ahead, text):
    """The tables by which the letters of a text go, in their order."""
    return [treed_table(learner, tree, ahead, text[:at]) for at in range(len(text))]


def treed_chance(learner, tree, ahead, text):
    """The chance of a text that is known to be possible."""
    return row_chance(treed_tables(learner, tree, ahead, text), text)


def table_treed(learner, tree, ahead, text):
    """The table by which a letter behind the text goes under the tree."""
    need_treed(learner, tree, ahead)
    need(is_possible(learner, text), "text")
    return treed_table(learner, tree, ahead, text)


def chance_treed(learner, tree, ahead, text):
    """The chance of the text under the tree."""
    need_treed(learner, tree, ahead)
    need(is_possible(learner, text), "text")
    return treed_chance(learner, tree, ahead, text)


def push_treed(stack, learner, tree, ahead, text):
    """The stack with the text's letters pushed, the last one first."""
    need(is_number(stack), "stack")
    need_treed(learner, tree, ahead)
    need(is_possible(learner, text), "text")
    return pushed_row(stack, treed_tables(learner, tree, ahead, text), text)


def pop_treed(stack, learner, tree, ahead, many):
    """A text of many letters, and the stack that is left."""
    need(is_number(stack), "stack")
    need_treed(learner, tree, ahead)
    need(is_number(many), "many")
    text = ()
    left = stack
    for _ in range(many):
        letter, left = popped_by(left, treed_table(learner, tree, ahead, text))
        text = text + (letter,)
    return text, left
