"""Fields of 2, 3, 5, 7, 16 and 256 numbers, with plans and blocks over them."""

from pushedback.guards import need
from pushedback.kinds import is_number, is_positive, is_row_below

SIZES = (2, 3, 5, 7, 16, 256)
# what is added where a doubled number is no number of the field any more, by the size of the field
CARRIES = {16: 19, 256: 283}
# the numbers of these two fields have so many binary digits at most
BINARY_DIGITS = 8


def is_field(thing):
    """Whether any value is the size of a field."""
    return is_number(thing) and thing in SIZES


def is_in_field(size, thing):
    """Whether the thing is a number of the field."""
    return is_number(thing) and thing < size


def is_field_row(size, wide, thing):
    """Whether the thing is a row of so many numbers of the field."""
    return is_row_below(size, thing) and len(thing) == wide


def is_rows_of_one_width(size, thing):
    """Whether the thing is a tuple of rows of numbers of the field, all of one width; () is one."""
    if not isinstance(thing, tuple) or not all([is_row_below(size, row) for row in thing]):
        return False
    return all([len(row) == len(thing[0]) for row in thing])


def is_field_plan(size, thing):
    """Whether the thing is a plan, for a size that is known to be that of a field."""
    return is_rows_of_one_width(size, thing) and len(thing) > 0 and len(thing[0]) > 0


def sum_in(size, one, other):
    """What field_plus gives, for parameters that are known to fit."""
    if size in CARRIES:
        return one ^ other
    return (one + other) % size


def less_in(size, one, other):
    """What field_minus gives, for parameters that are known to fit."""
    if size in CARRIES:
        return one ^ other
    return (one - other) % size


def product_in(size, one, other):
    """What field_times gives, for parameters that are known to fit."""
    if size not in CARRIES:
        return one * other % size
    result = 0
    for place in range(BINARY_DIGITS - 1, -1, -1):
        result = 2 * result
        if result >= size:
            result = result ^ CARRIES[size]
        if (other >> place) & 1 == 1:
            result = result ^ one
    return result


def power_in(size, one, many):
    """What field_raised gives, for parameters that are known to fit."""
    result = 1
    square = one
    left = many
    while left > 0:
        if left % 2 == 1:
            result = product_in(size, result, square)
        square = product_in(size, square, square)
        left = left // 2
    return result


def inverse_in(size, one):
    """The number whose product with one, which is not 0, is 1."""
    # the power size - 1 of each number but 0 is 1
    return power_in(size, one, size - 2)


def need_pair(size, one, other):
    """Refuse the first of a size and two numbers of its field that is not as it has to be."""
    need(is_field(size), "size")
    need(is_in_field(size, one), "one")
    need(is_in_field(size, other), "other")


def is_plan(size, thing):
    """Whether any value is a plan over the field."""
    need(is_field(size), "size")
    return is_field_plan(size, thing)


def is_blocks(size, many, thing):
    """Whether any value is a tuple of many blocks over the field."""
    need(is_field(size), "size")
    need(is_positive(many), "many")
    return is_rows_of_one_width(size, thing) and len(thing) == many


def field_plus(size, one, other):
    """The sum in the field."""
    need_pair(size, one, other)
    return sum_in(size, one, other)


def field_minus(size, one, other):
    """The number whose sum with other is one."""
    need_pair(size, one, other)
    return less_in(size, one, other)


def field_times(size, one, other):
    """The product in the field."""
    need_pair(size, one, other)
    return product_in(size, one, other)


def field_over(size, one, other):
    """The number whose product with other is one."""
    need_pair(size, one, other)
    need(other > 0, "other")
    return product_in(size, one, inverse_in(size, other))


def field_raised(size, one, other):
    """The power other of one, 1 for other 0."""
    need(is_field(size), "size")
    need(is_in_field(size, one), "one")
    need(is_number(other), "other")
    return power_in(size, one, other)
