"""Pushing and popping one letter by a table."""

from pushedback.exchanges import popped_by, pushed_by
from pushedback.guards import need
from pushedback.kinds import is_number
from pushedback.tables import is_letter, is_table


def push_by(stack, table, letter):
    """The stack with the letter pushed by the table."""
    need(is_number(stack), "stack")
    need(is_table(table), "table")
    need(is_letter(table, letter), "letter")
    return pushed_by(stack, table, letter)


def pop_by(stack, table):
    """The letter popped by the table, and the stack that is left."""
    need(is_number(stack), "stack")
    need(is_table(table), "table")
    return popped_by(stack, table)
