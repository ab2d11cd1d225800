"""Trees and models read from lines."""

from pushedback.errors import InvalidText
from pushedback.guards import need
from pushedback.learnkinds import is_share
from pushedback.words import is_short_numeral

LEAF = "."
NODE = "+"
# a line of a model ends in the word depth, the depth, the word share, its top and its bottom
TAIL = 5


def tree_misfit(words):
    """The index of the first word that cannot stand in the line of a tree, or how many words there are."""
    if words[0] != "tree":
        return 0
    if len(words) == 1 or not is_short_numeral(words[1]) or int(words[1]) == 0:
        return 1
    field = 2
    missing = 1
    while missing > 0 and field < len(words) and words[field] in (LEAF, NODE):
        missing -= 1
        if words[field] == NODE:
            missing = missing + int(words[1])
        field += 1
    return field


def tree_of_words(letters, words):
    """The tree that the words write, None if some are missing."""
    # from the last word on, so that the trees of a node are there when it comes, the first one last
    trees = []
    for word in words[::-1]:
        if word == LEAF:
            trees.append(())
        elif letters > len(trees):
            return None
        else:
            node = tuple([trees.pop() for _ in range(letters)])
            trees.append(node)
    return trees[0]


def read_tree(text):
    """The number of letters and the tree that the line writes."""
    need(isinstance(text, str), "text")
    words = text.split(" ")
    field = tree_misfit(words)
    if field < len(words) or len(words) <= 2:
        raise InvalidText(0, field)
    letters = int(words[1])
    tree = tree_of_words(letters, words[2:])
    if tree is None:
        raise InvalidText(0, field)
    return letters, tree


def stands_in_tail(tail, at):
    """Whether the word can stand at this place of the tail, which begins with the word depth."""
    if at == 2:
        return tail[at] == "share"
    if at == 4:
        return is_short_numeral(tail[at]) and is_share((int(tail[3]), int(tail[4])))
    return at in (1, 3) and is_short_numeral(tail[at])


def model_misfit(words):
    """The index of the first word that cannot stand in the line of a model, or how many words there are."""
    if words[0] != "model":
        return 0
    field = 1
    while field < len(words) and is_short_numeral(words[field]):
        field += 1
    if field == len(words) or words[field] != "depth" or not any([word != "0" for word in words[2:field]]):
        return field
    tail = words[field:]
    at = 1
    while at < len(tail) and stands_in_tail(tail, at):
        at += 1
    return field + at


def read_model(text):
    """The model that the line writes."""
    need(isinstance(text, str), "text")
    words = text.split(" ")
    field = model_misfit(words)
    if field < len(words) or len(words) <= TAIL or words[-TAIL] != "depth":
        raise InvalidText(0, field)
    numbers = [int(word) for word in words[1:-TAIL]]
    learner = (numbers[0], tuple(numbers[1:]))
    return learner, int(words[-4]), (int(words[-2]), int(words[-1]))
