"""Even things: numbers below a size, pushed and popped by division."""

from pushedback.guards import need
from pushedback.kinds import is_integer, is_number, is_positive, is_row


def is_sizes(thing):
    """Whether the thing is a tuple of integers from 1 on."""
    return isinstance(thing, tuple) and all([is_positive(part) for part in thing])


def is_digits_by(sizes, thing):
    """Whether the thing is a tuple of numbers, each below the size at its place."""
    if not is_row(thing) or len(thing) != len(sizes):
        return False
    return all([digit < size for digit, size in zip(thing, sizes)])


def need_between(stack, low, high):
    """Refuse the first of a stack and two bounds that is not as it has to be."""
    need(is_number(stack), "stack")
    need(is_integer(low), "low")
    need(is_integer(high) and high >= low, "high")


def push_even(stack, many, digit):
    """Many times the stack, plus the digit."""
    need(is_number(stack), "stack")
    need(is_positive(many), "many")
    need(is_number(digit) and digit < many, "digit")
    return many * stack + digit


def pop_even(stack, many):
    """The digit below many, and the stack that is left."""
    need(is_number(stack), "stack")
    need(is_positive(many), "many")
    return stack % many, stack // many


def push_evens(stack, sizes, digits):
    """The stack with all digits pushed, the last one first."""
    need(is_number(stack), "stack")
    need(is_sizes(sizes), "sizes")
    need(is_digits_by(sizes, digits), "digits")
    result = stack
    for at in range(len(sizes) - 1, -1, -1):
        result = sizes[at] * result + digits[at]
    return result


def pop_evens(stack, sizes):
    """The digits popped by the sizes, the first one first, and the stack that is left."""
    need(is_number(stack), "stack")
    need(is_sizes(sizes), "sizes")
    digits = []
    left = stack
    for size in sizes:
        digits.append(left % size)
        left = left // size
    return tuple(digits), left


def push_between(stack, low, high, integer):
    """The stack with an integer from low to high pushed."""
    need_between(stack, low, high)
    need(is_integer(integer) and low <= integer <= high, "integer")
    return (high - low + 1) * stack + integer - low


def pop_between(stack, low, high):
    """The integer from low to high, and the stack that is left."""
    need_between(stack, low, high)
    many = high - low + 1
    return stack % many + low, stack // many
