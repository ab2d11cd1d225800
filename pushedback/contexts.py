"""Trees of contexts: leaves, what is met at them, all trees, and their priors."""

from pushedback.guards import need
from pushedback.kinds import is_number, is_positive, is_row, is_row_below
from pushedback.learnkinds import is_any_tree, is_share, is_tree_of, tree_depth
from pushedback.listings import rows_over
from pushedback.ratios import WHOLE, ratio_less, ratio_product


def is_past(tree, thing):
    """Whether the thing is a past from which a leaf of the tree can be found."""
    if len(tree) == 0:
        return is_row(thing)
    return is_row_below(len(tree), thing) and len(thing) >= tree_depth(tree)


def leaf_context(tree, past):
    """The context of the leaf of a past that is known to fit."""
    context = []
    place = len(past)
    node = tree
    while len(node) > 0:
        place -= 1
        context.append(past[place])
        node = node[past[place]]
    return tuple(context)


def leaf_of(tree, past):
    """The context of the past's leaf, the past's last letter first."""
    need(is_any_tree(tree), "tree")
    need(is_past(tree, past), "past")
    return leaf_context(tree, past)


def leaf_contexts(tree):
    """A list of the contexts of all leaves, for a value that is known to be a tree."""
    if len(tree) == 0:
        return [()]
    contexts = []
    for letter in range(len(tree)):
        contexts.extend([(letter,) + context for context in leaf_contexts(tree[letter])])
    return contexts


def contexts_of(letters, tree):
    """The set of the contexts of all leaves of the tree."""
    need(is_positive(letters), "letters")
    need(is_tree_of(letters, tree), "tree")
    return tuple(sorted(leaf_contexts(tree)))


def letters_met(context, ahead, text):
    """The letters of the text right behind the context, for parameters that are known to fit."""
    whole = ahead + text
    behind = context[::-1]
    size = len(context)
    return tuple([whole[at] for at in range(len(ahead), len(whole)) if whole[at - size:at] == behind])


def met_at(context, ahead, text):
    """The text of those letters of the text that stand right behind the context."""
    need(is_row(context), "context")
    need(is_row(ahead) and len(ahead) >= len(context), "ahead")
    need(is_row(text), "text")
    return letters_met(context, ahead, text)


def trees_up_to(letters, depth):
    """A list of all trees of so many letters and at most this depth, ascending."""
    trees = [()]
    for _ in range(depth):
        rows = list(rows_over(trees, letters))
        trees = [(), *rows]
    return trees


def trees_of(letters, depth):
    """All trees of so many letters and at most this depth, ascending, one by one."""
    need(is_positive(letters), "letters")
    need(is_number(depth), "depth")
    yield ()
    if depth > 0:
        parts = trees_up_to(letters, depth - 1)
        yield from rows_over(parts, letters)


def prior_below(share, depth, tree):
    """The prior of a tree with so much depth left, for parameters that are known to fit."""
    if depth == 0:
        return WHOLE
    if len(tree) == 0:
        return share
    prior = ratio_less(WHOLE, share)
    for part in tree:
        prior = ratio_product(prior, prior_below(share, depth - 1, part))
    return prior


def prior_of(share, depth, tree):
    """The prior of the tree among all of at most this depth."""
    need(is_share(share), "share")
    need(is_number(depth), "depth")
    need(is_any_tree(tree) and tree_depth(tree) <= depth, "tree")
    return prior_below(share, depth, tree)
