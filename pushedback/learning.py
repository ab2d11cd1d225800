"""Learners: tables that grow with the text."""

from pushedback.exchanges import popped_by, pushed_row, row_chance
from pushedback.guards import need
from pushedback.kinds import is_number, is_row
from pushedback.learnkinds import is_learner, is_possible
from pushedback.ratios import ratio


def learned_table(learner, text):
    """The learner's table after a text that is known to be possible."""
    gain, starts = learner
    return tuple([starts[letter] + gain * text.count(letter) for letter in range(len(starts))])


def learned_tables(learner, text):
    """The tables by which the letters of a text go, in their order."""
    return [learned_table(learner, text[:at]) for at in range(len(text))]


def learned_chance(learner, text):
    """The chance of a text that is known to be possible."""
    return row_chance(learned_tables(learner, text), text)


def is_counts_for(learner, thing):
    """Whether the thing tells for each letter how often it stands, 0 where its start is 0."""
    starts = learner[1]
    if not is_row(thing) or len(thing) != len(starts):
        return False
    return all([start > 0 or count == 0 for start, count in zip(starts, thing)])


def rising_product(first, step, many):
    """The product of many numbers from the first on, each by the step above the one ahead."""
    product = 1
    for at in range(many):
        product = product * (first + step * at)
    return product


def table_after(learner, text):
    """The learner's table after the text."""
    need(is_learner(learner), "learner")
    need(is_possible(learner, text), "text")
    return learned_table(learner, text)


def chance_learned(learner, text):
    """The chance of the text, 1 for ()."""
    need(is_learner(learner), "learner")
    need(is_possible(learner, text), "text")
    return learned_chance(learner, text)


def chance_of_counts(learner, counts):
    """The chance of each text in which the letters stand so often."""
    need(is_learner(learner), "learner")
    need(is_counts_for(learner, counts), "counts")
    gain, starts = learner
    top = 1
    for start, count in zip(starts, counts):
        top = top * rising_product(start, gain, count)
    return ratio(top, rising_product(sum(starts), gain, sum(counts)))


def push_learned(stack, learner, text):
    """The stack with the text's letters pushed, the last one first."""
    need(is_number(stack), "stack")
    need(is_learner(learner), "learner")
    need(is_possible(learner, text), "text")
    return pushed_row(stack, learned_tables(learner, text), text)


def learned_pop(stack, learner, many):
    """What pop_learned gives, for parameters that are known to fit."""
    text = ()
    left = stack
    for _ in range(many):
        letter, left = popped_by(left, learned_table(learner, text))
        text = text + (letter,)
    return text, left


def pop_learned(stack, learner, many):
    """A text of many letters, and the stack that is left."""
    need(is_number(stack), "stack")
    need(is_learner(learner), "learner")
    need(is_number(many), "many")
    return learned_pop(stack, learner, many)
