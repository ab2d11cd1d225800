"""Strips whose letters stand as evenly as their growths let them."""

from pushedback.claims import is_growths
from pushedback.guards import need
from pushedback.powers import multiple_of
from pushedback.ratios import ratio
from pushedback.tables import is_table, used_letters


def spread_strip(letters, growths):
    """The letters, each by its growth, in order of their growths times how many of them stand ahead."""
    multiple = multiple_of(tuple([growth[0] for growth in growths]))
    shared = multiple_of(tuple([growth[1] for growth in growths]))
    marks = []
    for letter, (top, bottom) in zip(letters, growths):
        # all over the one bottom shared, so that the tops alone are compared
        step = top * (shared // bottom)
        marks.extend([(time * step, letter) for time in range(multiple // top * bottom)])
    return tuple([mark[1] for mark in sorted(marks)])


def strip_by(growths):
    """The strip in which each place of growths stands as often, and as evenly, as its growth says."""
    need(is_growths(growths), "growths")
    return spread_strip(tuple(range(len(growths))), growths)


def even_strip(table):
    """The strip of the table's letters, each by the table's sum by its count."""
    need(is_table(table), "table")
    letters = used_letters(table)
    size = sum(table)
    return spread_strip(letters, [ratio(size, table[letter]) for letter in letters])
