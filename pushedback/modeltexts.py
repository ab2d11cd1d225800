"""Trees and models written as lines."""

from pushedback.guards import need
from pushedback.kinds import is_positive
from pushedback.learnkinds import is_model, is_tree_of


def tree_words(tree):
    """The words of a value that is known to be a tree."""
    if len(tree) == 0:
        return ["."]
    words = ["+"]
    for part in tree:
        words.extend(tree_words(part))
    return words


def tree_line(letters, tree):
    """The word tree, the number of letters, and the tree's words."""
    need(is_positive(letters), "letters")
    need(is_tree_of(letters, tree), "tree")
    words = ["tree", str(letters)]
    words.extend(tree_words(tree))
    return " ".join(words)


def model_line(model):
    """The word model, the learner's numbers, and the depth and the share behind their words."""
    need(is_model(model), "model")
    learner, depth, share = model
    words = ["model", str(learner[0])]
    words.extend([str(start) for start in learner[1]])
    words.extend(["depth", str(depth), "share", str(share[0]), str(share[1])])
    return " ".join(words)
