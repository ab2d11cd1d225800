"""Tables of counts, and the strips that they stand for."""

from pushedback.guards import need
from pushedback.kinds import is_number, is_row


def is_table(thing):
    """Whether the thing is a tuple of numbers, not all 0."""
    return is_row(thing) and any([count > 0 for count in thing])


def is_strip(thing):
    """Whether the thing is a tuple of numbers, not empty."""
    return is_row(thing) and len(thing) > 0


def is_tables(thing):
    """Whether the thing is a tuple of tables."""
    return isinstance(thing, tuple) and all([is_table(part) for part in thing])


def is_letter(table, thing):
    """Whether the thing is a place of the table with a count above 0."""
    return is_number(thing) and thing < len(table) and table[thing] > 0


def used_letters(table):
    """The places of the table with a count above 0."""
    return tuple([letter for letter in range(len(table)) if table[letter] > 0])


def sum_of(table):
    """The sum of the counts."""
    need(is_table(table), "table")
    return sum(table)


def ahead_of(table, letter):
    """The sum of the counts at places below the letter."""
    need(is_table(table), "table")
    need(is_letter(table, letter), "letter")
    return sum(table[:letter])


def letters_of(table):
    """The set of the letters of the table."""
    need(is_table(table), "table")
    return used_letters(table)


def strip_of(table):
    """Each letter as often as its count, in ascending order."""
    need(is_table(table), "table")
    strip = []
    for letter in range(len(table)):
        strip.extend([letter for _ in range(table[letter])])
    return tuple(strip)


def table_of(strip):
    """How often each number up to the strip's greatest letter stands in it."""
    need(is_strip(strip), "strip")
    return tuple([strip.count(letter) for letter in range(max(strip) + 1)])
