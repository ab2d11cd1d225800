"""Which values are schemes, and how many levels they have."""

from pushedback.guards import need
from pushedback.kinds import is_number, is_positive, is_positive_pair
from pushedback.learnkinds import is_ahead, is_learner, is_model, is_tree_of, tree_depth
from pushedback.tables import is_table

SCHEME_WORDS = (
    "even", "table", "row", "choice", "hidden", "learned", "treed", "mixed", "bag", "set", "order", "copies",
)


def is_counted_scheme(word, parts):
    """Whether word and parts are those of a scheme without a learner and without schemes in it."""
    if len(parts) == 1:
        if word == "even":
            return is_positive(parts[0])
        if word == "table":
            return is_table(parts[0])
        return word == "order" and is_number(parts[0])
    if len(parts) == 2:
        return word == "set" and is_number(parts[0]) and is_number(parts[1]) and parts[1] <= parts[0]
    if len(parts) == 4 and word == "copies":
        letters, most, pair, many = parts
        return is_positive(letters) and is_positive(most) and is_positive_pair(pair) and is_number(many)
    return False


def is_learning_scheme(word, parts):
    """Whether word and parts are those of a scheme with a learner."""
    if len(parts) == 2:
        return word in ("learned", "bag") and is_learner(parts[0]) and is_number(parts[1])
    if len(parts) == 3 and word == "mixed":
        model, ahead, many = parts
        return is_model(model) and is_ahead(model[0], model[1], ahead) and is_number(many)
    if len(parts) == 4 and word == "treed":
        learner, tree, ahead, many = parts
        if not is_learner(learner) or not is_tree_of(len(learner[1]), tree):
            return False
        return is_ahead(learner, tree_depth(tree), ahead) and is_number(many)
    return False


def is_parted_scheme(word, parts):
    """Whether word and parts are those of a scheme with schemes in it, whatever stands in their places."""
    if len(parts) == 1:
        return word == "row" and isinstance(parts[0], tuple)
    if len(parts) == 2 and word in ("choice", "hidden"):
        table, schemes = parts
        return is_table(table) and isinstance(schemes, tuple) and len(schemes) == len(table)
    return False


def is_scheme_outside(thing):
    """Whether the thing is a scheme, if what stands in it in the places of schemes is taken for some."""
    if not isinstance(thing, tuple) or len(thing) < 2:
        return False
    word = thing[0]
    parts = thing[1:]
    return is_counted_scheme(word, parts) or is_learning_scheme(word, parts) or is_parted_scheme(word, parts)


def are_schemes(things):
    """Whether all of the things are schemes."""
    # one by one, since what a line writes may be nested deeper than calls can be
    waiting = list(things)
    while len(waiting) > 0:
        scheme = waiting.pop()
        if not is_scheme_outside(scheme):
            return False
        waiting.extend(schemes_in(scheme))
    return True


def is_scheme(thing):
    """Whether the thing is a scheme."""
    return are_schemes((thing,))


def schemes_in(scheme):
    """The schemes that stand in a scheme, those of count 0 too."""
    if scheme[0] in ("row", "choice", "hidden"):
        return scheme[-1]
    return ()


def level_count(scheme):
    """How many levels a value that is known to be a scheme has."""
    return 1 + max([0] + [level_count(part) for part in schemes_in(scheme)])


def levels_of(scheme):
    """How many levels the scheme has."""
    need(is_scheme(scheme), "scheme")
    return level_count(scheme)
