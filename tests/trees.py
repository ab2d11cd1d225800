"""Trees and texts by their definitions, for the tests."""

import itertools
from fractions import Fraction


def all_trees(letters, depth):
    """All trees of so many letters and at most this depth, in any order."""
    trees = [()]
    if depth > 0:
        parts = all_trees(letters, depth - 1)
        trees.extend(itertools.product(parts, repeat=letters))
    return trees


def depth_of(tree):
    return 1 + max(depth_of(part) for part in tree) if tree else 0


def leaf(tree, past):
    """The context of the leaf, step by step."""
    context = ()
    while tree:
        letter = past[-1 - len(context)]
        context += (letter,)
        tree = tree[letter]
    return context


def prior(share, depth, tree):
    if depth == 0:
        return Fraction(1)
    if not tree:
        return share
    product = 1 - share
    for part in tree:
        product *= prior(share, depth - 1, part)
    return product


def table_under(learner, tree, ahead, text):
    """The table for a letter behind the text, by comparing the leaves of all letters."""
    gain, starts = learner
    here = leaf(tree, ahead + text)
    table = list(starts)
    for at, letter in enumerate(text):
        if leaf(tree, ahead + text[:at]) == here:
            table[letter] += gain
    return tuple(table)


def chance_under(learner, tree, ahead, text):
    product = Fraction(1)
    for at, letter in enumerate(text):
        table = table_under(learner, tree, ahead, text[:at])
        product *= Fraction(table[letter], sum(table))
    return product


def possible_texts(learner, many):
    letters = [k for k, start in enumerate(learner[1]) if start]
    return list(itertools.product(letters, repeat=many))


def pair(number):
    number = Fraction(number)
    return (number.numerator, number.denominator)
