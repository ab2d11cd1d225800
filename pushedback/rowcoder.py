"""Pushing and popping rows of letters, each by a table of its own."""

from pushedback.exchanges import popped_row, pushed_row
from pushedback.guards import need
from pushedback.kinds import is_number
from pushedback.leans import leans_joined
from pushedback.ratios import NOUGHT, WHOLE, ratio
from pushedback.tables import is_letter, is_tables


def is_letters_by(tables, thing):
    """Whether the thing is a tuple with a letter of each of the tables."""
    if not isinstance(thing, tuple) or len(thing) != len(tables):
        return False
    return all([is_letter(table, letter) for table, letter in zip(tables, thing)])


def push_letters(stack, tables, letters):
    """The stack with all letters pushed, the last one first."""
    need(is_number(stack), "stack")
    need(is_tables(tables), "tables")
    need(is_letters_by(tables, letters), "letters")
    return pushed_row(stack, tables, letters)


def pop_letters(stack, tables):
    """The letters popped by the tables, the first one first, and the stack that is left."""
    need(is_number(stack), "stack")
    need(is_tables(tables), "tables")
    return popped_row(stack, tables)


def lean_by(table, letter):
    """The lean of a letter by the strip of its table, reckoned from the counts alone."""
    size = sum(table)
    count = table[letter]
    ahead = sum(table[:letter])
    low = ratio(ahead * count - (size - count) * (count - 1), count)
    return ratio(size, count), low, ratio(ahead, 1)


def lean_of_row(tables, letters):
    """The leans of the letters, put together as the letters are pushed."""
    need(is_tables(tables), "tables")
    need(is_letters_by(tables, letters), "letters")
    lean = (WHOLE, NOUGHT, NOUGHT)
    for at in range(len(letters) - 1, -1, -1):
        lean = leans_joined(lean, lean_by(tables[at], letters[at]))
    return lean
