"""Pushing and popping the things of schemes."""

from pushedback.exchanges import popped_by, pushed_by
from pushedback.guards import need
from pushedback.hiddens import picking_table
from pushedback.kinds import is_number
from pushedback.leafcoder import pop_leaf, push_leaf
from pushedback.schemekinds import is_scheme
from pushedback.things import holds


def push_to(stack, scheme, thing):
    """What push_thing gives, for parameters that are known to fit."""
    word = scheme[0]
    if word == "row":
        result = stack
        for at in range(len(thing) - 1, -1, -1):
            result = push_to(result, scheme[1][at], thing[at])
        return result
    if word == "choice":
        return push_chosen(stack, scheme, thing[0], thing[1])
    if word == "hidden":
        letter, left = popped_by(stack, picking_table(scheme, thing))
        return push_chosen(left, scheme, letter, thing)
    return push_leaf(stack, scheme, thing)


def push_chosen(stack, scheme, letter, thing):
    """The stack with the thing pushed by the scheme at the letter, then the letter."""
    return pushed_by(push_to(stack, scheme[2][letter], thing), scheme[1], letter)


def pop_from(stack, scheme):
    """What pop_thing gives, for parameters that are known to fit."""
    word = scheme[0]
    if word == "row":
        parts = []
        left = stack
        for part in scheme[1]:
            thing, left = pop_from(left, part)
            parts.append(thing)
        return tuple(parts), left
    if word == "choice":
        letter, thing, left = pop_chosen(stack, scheme)
        return (letter, thing), left
    if word == "hidden":
        letter, thing, left = pop_chosen(stack, scheme)
        return thing, pushed_by(left, picking_table(scheme, thing), letter)
    return pop_leaf(stack, scheme)


def pop_chosen(stack, scheme):
    """A letter of the scheme's table, a thing by the scheme there, and the stack that is left."""
    letter, left = popped_by(stack, scheme[1])
    thing, left = pop_from(left, scheme[2][letter])
    return letter, thing, left


def push_thing(stack, scheme, thing):
    """The stack with the thing pushed by the scheme."""
    need(is_number(stack), "stack")
    need(is_scheme(scheme), "scheme")
    need(holds(scheme, thing), "thing")
    return push_to(stack, scheme, thing)


def pop_thing(stack, scheme):
    """The thing popped by the scheme, and the stack that is left."""
    need(is_number(stack), "stack")
    need(is_scheme(scheme), "scheme")
    return pop_from(stack, scheme)
