"""Rows of numbers of a field: sums of multiples of them, and rows apart from them."""

from pushedback.fields import inverse_in, is_field, is_field_row, less_in, product_in, sum_in
from pushedback.guards import need
from pushedback.kinds import is_number


def unit_row(wide, at):
    """The row of so many numbers with 1 at this place, else 0."""
    return tuple([int(place == at) for place in range(wide)])


def is_nought_row(row):
    """Whether all numbers of the row are 0."""
    return all([number == 0 for number in row])


def multiple_in(size, number, row):
    """The row multiplied by the number."""
    return tuple([product_in(size, number, own) for own in row])


def row_sum(size, wide, numbers, rows):
    """The sum of rows of so many numbers, each multiplied by its number; noughts for no rows."""
    total = [0 for _ in range(wide)]
    for number, row in zip(numbers, rows):
        total = [sum_in(size, own, more) for own, more in zip(total, multiple_in(size, number, row))]
    return tuple(total)


def row_product(size, one, other):
    """The sum of the products at all places."""
    total = 0
    for left, right in zip(one, other):
        total = sum_in(size, total, product_in(size, left, right))
    return total


def cleared(size, row, at, pivot):
    """The row less that multiple of the pivot row, which has 1 at the place, by which it gets 0 there."""
    if row[at] == 0:
        return row
    taken = multiple_in(size, row[at], pivot)
    return tuple([less_in(size, own, less) for own, less in zip(row, taken)])


def settle(size, wide, rows):
    """The rows settled in their first wide numbers, and what is left of the others, noughts there.

    Rows may be longer: what stands behind goes along.
    """
    settled = []
    left = list(rows)
    at = 0
    # without rows any width will do
    while at < wide and len(left) > 0:
        found = [place for place, row in enumerate(left) if row[at] != 0]
        if len(found) > 0:
            row = left.pop(found[0])
            pivot = multiple_in(size, inverse_in(size, row[at]), row)
            left = [cleared(size, own, at, pivot) for own in left]
            settled = [cleared(size, own, at, pivot) for own in settled] + [pivot]
        at += 1
    return settled, left


def lead_of(row):
    """The place of the first number of the row that is not 0."""
    at = 0
    while row[at] == 0:
        at += 1
    return at


def multipliers_for(size, wide, rows, digits):
    """What sum_for gives, for parameters that are known to fit."""
    # behind each row stands of which rows it is the sum, and by which multipliers
    noted = [row + unit_row(len(rows), at) for at, row in enumerate(rows)]
    rest = digits + tuple([0 for _ in rows])
    for row in settle(size, wide, noted)[0]:
        rest = cleared(size, rest, lead_of(row), row)
    if not is_nought_row(rest[:wide]):
        return None
    return tuple([less_in(size, 0, number) for number in rest[wide:]])


def row_apart(size, wide, rows, place):
    """What apart_from gives, for parameters that are known to fit."""
    settled = settle(size, wide, rows)[0]
    leads = [lead_of(row) for row in settled]
    free = place
    if place in leads:
        # its product with the settled row there is 0 only by another place of this row
        own = settled[leads.index(place)]
        others = [at for at in range(place + 1, wide) if own[at] != 0]
        if len(others) == 0:
            return None
        free = others[0]
    digits = [int(at == free) for at in range(wide)]
    for lead, row in zip(leads, settled):
        digits[lead] = less_in(size, 0, row[free])
    return tuple(digits)


def need_rows(size, wide, rows):
    """Refuse the first of a size, a width and rows of this width that is not as it has to be."""
    need(is_field(size), "size")
    need(is_number(wide), "wide")
    need(isinstance(rows, tuple) and all([is_field_row(size, wide, row) for row in rows]), "rows")


def settled_rows(size, wide, rows):
    """The settled rows that have the same sums of multiples."""
    need_rows(size, wide, rows)
    return tuple(settle(size, wide, rows)[0])


def rank_in(size, wide, rows):
    """How many the settled rows are."""
    need_rows(size, wide, rows)
    return len(settle(size, wide, rows)[0])


def sum_for(size, wide, rows, digits):
    """The multipliers of a sum of multiples of the rows that is digits, None if there is none."""
    need_rows(size, wide, rows)
    need(is_field_row(size, wide, digits), "digits")
    return multipliers_for(size, wide, rows, digits)


def apart_from(size, wide, rows, place):
    """A row that has the product 0 with each of the rows and is not 0 at the place, None if there is none."""
    need_rows(size, wide, rows)
    need(is_number(place) and place < wide, "place")
    return row_apart(size, wide, rows, place)
