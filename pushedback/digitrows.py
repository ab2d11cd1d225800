"""Stacks as rows of digits, and digits put behind a stack's row and taken off it."""

from pushedback.guards import need
from pushedback.kinds import is_base, is_digits, is_number


def value_of(base, digits):
    """The value of a row that is known to be one of digits of the base."""
    value = 0
    for digit in digits:
        value = value * base + digit
    return value


def last_digit(base, stack):
    """The last digit of a stack's row, and the stack of those ahead of it; the stack is above 0."""
    # a digit put behind turns the stack s into base times s, plus 1, plus the digit
    return (stack - 1) % base, (stack - 1) // base


def digits_of(base, number, many):
    """The row of just many digits with this value."""
    need(is_base(base), "base")
    need(is_number(number), "number")
    need(is_number(many), "many")
    digits = []
    left = number
    for _ in range(many):
        digits.append(left % base)
        left = left // base
    need(left == 0, "number")
    return tuple(digits[::-1])


def number_of(base, digits):
    """The value of a row, 0 for ()."""
    need(is_base(base), "base")
    need(is_digits(base, digits), "digits")
    return value_of(base, digits)


def row_of(base, stack):
    """The row of the stack."""
    need(is_base(base), "base")
    need(is_number(stack), "stack")
    digits = []
    left = stack
    while left > 0:
        digit, left = last_digit(base, left)
        digits.append(digit)
    return tuple(digits[::-1])


def stack_of(base, digits):
    """The stack of the row."""
    need(is_base(base), "base")
    need(is_digits(base, digits), "digits")
    stack = 0
    for digit in digits:
        stack = base * stack + 1 + digit
    return stack


def added(base, stack, digits):
    """The stack of the stack's row with the digits put behind it."""
    need(is_base(base), "base")
    need(is_number(stack), "stack")
    need(is_digits(base, digits), "digits")
    result = stack
    for digit in digits:
        result = base * result + 1 + digit
    return result


def taken(base, stack, many):
    """The last many digits of the stack's row, and the stack of those ahead of them."""
    need(is_base(base), "base")
    need(is_number(stack), "stack")
    need(is_number(many), "many")
    digits = []
    left = stack
    while len(digits) < many:
        need(left > 0, "many")
        digit, left = last_digit(base, left)
        digits.append(digit)
    return tuple(digits[::-1]), left
