"""The exchange of a table, for stacks, tables and letters that are known to fit."""

from pushedback.ratios import ratio


def pushed_by(stack, table, letter):
    """The place at which the letter stands for the time stack, in the strip said over and over."""
    count = table[letter]
    return sum(table) * (stack // count) + sum(table[:letter]) + stack % count


def popped_by(stack, table):
    """The letter at the place stack, and how often it stands ahead of it."""
    size = sum(table)
    place = stack % size
    letter = 0
    while place >= table[letter]:
        place = place - table[letter]
        letter += 1
    return letter, table[letter] * (stack // size) + place


def pushed_row(stack, tables, letters):
    """The stack with all letters pushed, each by its table, the last one first."""
    result = stack
    for at in range(len(letters) - 1, -1, -1):
        result = pushed_by(result, tables[at], letters[at])
    return result


def popped_row(stack, tables):
    """The letters popped, one by each table, the first one first, and the stack that is left."""
    letters = []
    left = stack
    for table in tables:
        letter, left = popped_by(left, table)
        letters.append(letter)
    return tuple(letters), left


def row_chance(tables, letters):
    """The product of the chances of the letters, each by its table."""
    top = 1
    bottom = 1
    for table, letter in zip(tables, letters):
        top = top * table[letter]
        bottom = bottom * sum(table)
    return ratio(top, bottom)
