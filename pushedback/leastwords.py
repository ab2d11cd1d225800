"""Least words, and the one way in which a text is joined of them."""

from pushedback.guards import need
from pushedback.kinds import is_row


def split_least(text):
    """A list of the text's least words, in their order."""
    words = []
    begin = 0
    while begin < len(text):
        # what is looked at is a least word again and again, back being where the last time is compared with
        back = begin
        at = begin + 1
        while at < len(text) and text[back] <= text[at]:
            if text[back] < text[at]:
                back = begin
            else:
                back += 1
            at += 1
        wide = at - back
        while begin <= back:
            words.append(text[begin:begin + wide])
            begin = begin + wide
    return words


def is_least_word(text):
    """Whether a tuple of numbers is a least word."""
    return split_least(text) == [text]


def is_least(text):
    """Whether the text is less than its rotation from each place but 0, and not ()."""
    need(is_row(text), "text")
    return is_least_word(text)


def least_words(text):
    """The text's least words, in their order."""
    need(is_row(text), "text")
    return tuple(split_least(text))
