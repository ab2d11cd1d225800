"""Integers as numbers, and texts numbered among those with the same letters."""

from pushedback.bags import bag_orders
from pushedback.guards import need
from pushedback.kinds import is_integer, is_number, is_row
from pushedback.powers import choose


def texts_with(counts):
    """How many texts there are in which the letters stand so often."""
    many = 1
    placed = 0
    for count in counts:
        placed = placed + count
        many = many * choose(placed, count)
    return many


def number_of_integer(integer):
    """The place of the integer in 0, -1, 1, -2, 2 and so on."""
    need(is_integer(integer), "integer")
    if integer < 0:
        return -2 * integer - 1
    return 2 * integer


def integer_of_number(number):
    """The integer at this place in 0, -1, 1, -2, 2 and so on."""
    need(is_number(number), "number")
    if number % 2 == 1:
        return -(number + 1) // 2
    return number // 2


def rank_of_text(text):
    """How many texts with the same letters, each as often, are below the text."""
    need(is_row(text), "text")
    rank = 0
    left = sorted(text)
    for letter in text:
        for lesser in sorted(set(left)):
            if lesser < letter:
                at = left.index(lesser)
                rank = rank + bag_orders(left[:at] + left[at + 1:])
        left.remove(letter)
    return rank


def text_by(counts, rank):
    """The text in which the letters stand so often that has this rank."""
    need(is_row(counts), "counts")
    need(is_number(rank) and rank < texts_with(counts), "rank")
    left = list(counts)
    rest = rank
    text = []
    while sum(left) > 0:
        letter = 0
        while rest >= texts_without(left, letter):
            rest = rest - texts_without(left, letter)
            letter += 1
        left[letter] -= 1
        text.append(letter)
    return tuple(text)


def texts_without(counts, letter):
    """How many texts there are of what is left behind the letter; 0 if there is none to take."""
    if counts[letter] == 0:
        return 0
    return texts_with(counts[:letter] + [counts[letter] - 1] + counts[letter + 1:])
