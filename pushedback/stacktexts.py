"""Stacks written as lines."""

from pushedback.digitrows import row_of
from pushedback.guards import need
from pushedback.kinds import is_base, is_number


def stack_line(base, stack):
    """The word stack, the base, and the digits of the stack's row."""
    need(is_base(base), "base")
    need(is_number(stack), "stack")
    words = ["stack", str(base)]
    words.extend([str(digit) for digit in row_of(base, stack)])
    return " ".join(words)
