"""Pushing and popping texts by a model."""

from pushedback.exchanges import popped_by, pushed_row
from pushedback.guards import need
from pushedback.kinds import is_number
from pushedback.learnkinds import is_possible
from pushedback.mixing import mixed_table, need_model


def mixed_tables(model, ahead, text):
    """The tables by which the letters of a text go, in their order."""
    return [mixed_table(model, ahead, text[:at]) for at in range(len(text))]


def push_mixed(stack, model, ahead, text):
    """The stack with the text's letters pushed, the last one first."""
    need(is_number(stack), "stack")
    need_model(model, ahead)
    need(is_possible(model[0], text), "text")
    return pushed_row(stack, mixed_tables(model, ahead, text), text)


def pop_mixed(stack, model, ahead, many):
    """A text of many letters, and the stack that is left."""
    need(is_number(stack), "stack")
    need_model(model, ahead)
    need(is_number(many), "many")
    text = ()
    left = stack
    for _ in range(many):
        letter, left = popped_by(left, mixed_table(model, ahead, text))
        text = text + (letter,)
    return text, left
