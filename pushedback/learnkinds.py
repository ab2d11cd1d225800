"""The kinds of learners: learners, trees of contexts, shares and models."""

from pushedback.guards import need
from pushedback.kinds import is_number, is_pair, is_positive, is_quotient, is_row_below
from pushedback.tables import is_table


def is_learner(thing):
    """Whether the thing is a pair of a gain and a table of starts."""
    return is_pair(thing) and is_number(thing[0]) and is_table(thing[1])


def is_tree_of(letters, thing):
    """Whether the thing is a tree of so many letters, the letters known to be a number of them."""
    # node by node, since what a line writes may be nested deeper than calls can be
    waiting = [thing]
    while len(waiting) > 0:
        node = waiting.pop()
        if not isinstance(node, tuple) or len(node) not in (0, letters):
            return False
        waiting.extend(node)
    return True


def is_any_tree(thing):
    """Whether the thing is a tree of any number of letters from 1 on."""
    return isinstance(thing, tuple) and is_tree_of(len(thing), thing)


def is_tree(letters, thing):
    """Whether the thing is a tree of so many letters."""
    need(is_positive(letters), "letters")
    return is_tree_of(letters, thing)


def is_share(thing):
    """Whether the thing is a quotient from 0 to 1."""
    return is_quotient(thing) and 0 <= thing[0] <= thing[1]


def is_model(thing):
    """Whether the thing is a triple of a learner, a depth and a share."""
    if not isinstance(thing, tuple) or len(thing) != 3:
        return False
    learner, depth, share = thing
    return is_learner(learner) and is_number(depth) and is_share(share)


def tree_depth(tree):
    """How deep a value that is known to be a tree is nested."""
    depth = 0
    parts = list(tree)
    while len(parts) > 0:
        depth += 1
        parts = [below for part in parts for below in part]
    return depth


def depth_of(tree):
    """How deep the tree is nested, 0 for ()."""
    need(is_any_tree(tree), "tree")
    return tree_depth(tree)


def is_possible(learner, thing):
    """Whether the thing is a text over the learner's letters, each with a start above 0."""
    starts = learner[1]
    return is_row_below(len(starts), thing) and all([starts[letter] > 0 for letter in thing])


def is_ahead(learner, depth, thing):
    """Whether the thing is a text over the learner's letters that is exactly as long as the depth."""
    return is_row_below(len(learner[1]), thing) and len(thing) == depth
