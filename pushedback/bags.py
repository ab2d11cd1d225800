"""Bags: texts whose order is given back to the stack."""

from pushedback.exchanges import popped_by, pushed_by, pushed_row
from pushedback.guards import need
from pushedback.kinds import is_in_order, is_number, is_row
from pushedback.learning import learned_chance, learned_pop, learned_tables
from pushedback.learnkinds import is_learner, is_possible
from pushedback.powers import factorial_of
from pushedback.ratios import ratio_product


def is_bag(thing):
    """Whether the thing is a tuple of numbers in ascending order."""
    return is_row(thing) and is_in_order(thing)


def is_bag_for(learner, thing):
    """Whether the thing is a bag that is possible for the learner."""
    return is_possible(learner, thing) and is_in_order(thing)


def standing(letters, text):
    """The table, over so many letters, of how often each stands in the text."""
    return tuple([text.count(letter) for letter in range(letters)])


def bag_orders(bag):
    """How many texts have a bag that is known to be one."""
    orders = factorial_of(len(bag))
    for at in range(len(bag)):
        # a run of equal letters of length n is divided by 1, 2 .. n
        orders = orders // (bag[:at].count(bag[at]) + 1)
    return orders


def bag_chance(learner, bag):
    """The chance of a bag that is known to be possible."""
    return ratio_product((bag_orders(bag), 1), learned_chance(learner, bag))


def bag_of(text):
    """The letters of the text in ascending order."""
    need(is_row(text), "text")
    return tuple(sorted(text))


def orders_of_bag(bag):
    """How many texts have this bag."""
    need(is_bag(bag), "bag")
    return bag_orders(bag)


def chance_of_bag(learner, bag):
    """The chance that a text of the learner has this bag."""
    need(is_learner(learner), "learner")
    need(is_bag_for(learner, bag), "bag")
    return bag_chance(learner, bag)


def push_bag(stack, learner, bag):
    """The stack with the bag pushed, its order popped on the way."""
    need(is_number(stack), "stack")
    need(is_learner(learner), "learner")
    need(is_bag_for(learner, bag), "bag")
    letters = len(learner[1])
    remaining = list(bag)
    text = []
    left = stack
    while len(remaining) > 0:
        letter, left = popped_by(left, standing(letters, remaining))
        text.append(letter)
        remaining.remove(letter)
    return pushed_row(left, learned_tables(learner, tuple(text)), text)


def pop_bag(stack, learner, many):
    """The bag of a text popped by the learner, and the stack with its order pushed back."""
    need(is_number(stack), "stack")
    need(is_learner(learner), "learner")
    need(is_number(many), "many")
    letters = len(learner[1])
    text, left = learned_pop(stack, learner, many)
    for at in range(len(text) - 1, -1, -1):
        left = pushed_by(left, standing(letters, text[at:]), text[at])
    return tuple(sorted(text)), left
