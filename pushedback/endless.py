"""Numbers without a bound: endless ones by a table, long ones with their digits as well."""

from pushedback.digitrows import value_of
from pushedback.exchanges import popped_by, pushed_by
from pushedback.guards import need
from pushedback.kinds import is_base, is_number, is_positive
from pushedback.powers import power
from pushedback.ratios import ratio

STOP = 0
GO = 1


def need_ends(stop, going):
    """Refuse the first of two counts that is no number above 0."""
    need(is_positive(stop), "stop")
    need(is_positive(going), "going")


def plain_digits(base, number):
    """The digits of a number without noughts ahead, the lowest one first; none for 0."""
    digits = []
    left = number
    while left > 0:
        digits.append(left % base)
        left = left // base
    return digits


def endless_pushed(stack, table, number):
    """What push_endless gives by the table (stop, going), for parameters that are known to fit."""
    result = pushed_by(stack, table, STOP)
    for _ in range(number):
        result = pushed_by(result, table, GO)
    return result


def endless_popped(stack, table):
    """What pop_endless gives by the table (stop, going), for parameters that are known to fit."""
    number = 0
    letter, left = popped_by(stack, table)
    while letter == GO:
        number += 1
        letter, left = popped_by(left, table)
    return number, left


def endless_chance(stop, going, number):
    """The chance of an endless number, for parameters that are known to fit."""
    return ratio(stop * power(going, number), power(stop + going, number + 1))


def push_endless(stack, stop, going, number):
    """The stack with 0 pushed, then 1 so often."""
    need(is_number(stack), "stack")
    need_ends(stop, going)
    need(is_number(number), "number")
    return endless_pushed(stack, (stop, going), number)


def pop_endless(stack, stop, going):
    """How often 1 is popped until 0 comes, and the stack that is left."""
    need(is_number(stack), "stack")
    need_ends(stop, going)
    return endless_popped(stack, (stop, going))


def push_long(stack, stop, going, base, number):
    """The stack with the number's digits pushed, the last one first, then how many there are."""
    need(is_number(stack), "stack")
    need_ends(stop, going)
    need(is_base(base), "base")
    need(is_number(number), "number")
    digits = plain_digits(base, number)
    result = stack
    for digit in digits[:-1]:
        result = base * result + digit
    if len(digits) > 0:
        result = (base - 1) * result + digits[-1] - 1
    return endless_pushed(result, (stop, going), len(digits))


def pop_long(stack, stop, going, base):
    """The number with as many digits as are popped first, and the stack that is left."""
    need(is_number(stack), "stack")
    need_ends(stop, going)
    need(is_base(base), "base")
    many, left = endless_popped(stack, (stop, going))
    digits = []
    if many > 0:
        digits.append(left % (base - 1) + 1)
        left = left // (base - 1)
    while len(digits) < many:
        digits.append(left % base)
        left = left // base
    return value_of(base, digits), left


def chance_endless(stop, going, number):
    """The product of the chances of all letters popped."""
    need_ends(stop, going)
    need(is_number(number), "number")
    return endless_chance(stop, going, number)


def chance_long(stop, going, base, number):
    """The chance of how many digits there are, divided by the choices for each."""
    need_ends(stop, going)
    need(is_base(base), "base")
    need(is_number(number), "number")
    many = len(plain_digits(base, number))
    top, bottom = endless_chance(stop, going, many)
    if many > 0:
        bottom = bottom * (base - 1) * power(base, many - 1)
    return ratio(top, bottom)
