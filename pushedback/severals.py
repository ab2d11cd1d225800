"""Whole texts as rows of digits, by several states and one heap."""

from pushedback.guards import need
from pushedback.kinds import is_positive
from pushedback.registerkinds import is_heap_of, is_register, is_text_in
from pushedback.streams import are_exact, row_read, row_written


def write_several(holder, many, strips, text):
    """The row of digits of the text, its letters written in turn by so many states."""
    need(is_register(holder), "holder")
    need(is_positive(many), "many")
    need(are_exact(holder, strips), "strips")
    need(is_text_in(strips, text), "text")
    return row_written(holder, many, strips, text)


def read_several(holder, many, strips, digits):
    """The text read from the row of digits in turn by so many states."""
    need(is_register(holder), "holder")
    need(is_positive(many), "many")
    need(are_exact(holder, strips), "strips")
    need(is_heap_of(holder, digits), "digits")
    return row_read(holder, many, strips, digits)
