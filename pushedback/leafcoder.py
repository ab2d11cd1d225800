"""The exchanges of schemes that have no schemes in them, for values that are known to fit."""

from pushedback.bags import pop_bag, push_bag
from pushedback.copying import pop_copied, push_copied
from pushedback.exchanges import popped_by, pushed_by
from pushedback.leafthings import leaf_count
from pushedback.learning import pop_learned, push_learned
from pushedback.mixcoder import pop_mixed, push_mixed
from pushedback.numberings import order_by, order_rank, set_by, set_rank
from pushedback.treecoder import pop_treed, push_treed


def digit_of(scheme, thing):
    """The digit as which a thing of an even scheme, of sets or of orders is pushed."""
    word = scheme[0]
    if word == "set":
        return set_rank(scheme[1], thing)
    if word == "order":
        return order_rank(thing)
    return thing


def thing_of_digit(scheme, digit):
    """The thing of an even scheme, of sets or of orders that is pushed as this digit."""
    word = scheme[0]
    if word == "set":
        return set_by(scheme[1], scheme[2], digit)
    if word == "order":
        return order_by(scheme[1], digit)
    return digit


def push_leaf(stack, scheme, thing):
    """The stack with the thing pushed."""
    word = scheme[0]
    if word == "table":
        return pushed_by(stack, scheme[1], thing)
    if word == "learned":
        return push_learned(stack, scheme[1], thing)
    if word == "treed":
        return push_treed(stack, scheme[1], scheme[2], scheme[3], thing)
    if word == "mixed":
        return push_mixed(stack, scheme[1], scheme[2], thing)
    if word == "bag":
        return push_bag(stack, scheme[1], thing)
    if word == "copies":
        return push_copied(stack, scheme[1], scheme[2], scheme[3], thing)
    return leaf_count(scheme) * stack + digit_of(scheme, thing)


def pop_leaf(stack, scheme):
    """A thing of the scheme, and the stack that is left."""
    word = scheme[0]
    if word == "table":
        return popped_by(stack, scheme[1])
    if word == "learned":
        return pop_learned(stack, scheme[1], scheme[2])
    if word == "treed":
        return pop_treed(stack, scheme[1], scheme[2], scheme[3], scheme[4])
    if word == "mixed":
        return pop_mixed(stack, scheme[1], scheme[2], scheme[3])
    if word == "bag":
        return pop_bag(stack, scheme[1], scheme[2])
    if word == "copies":
        return pop_copied(stack, scheme[1], scheme[2], scheme[3], scheme[4])
    many = leaf_count(scheme)
    return thing_of_digit(scheme, stack % many), stack // many
