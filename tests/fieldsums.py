"""Fields and sums of rows reckoned by their definitions, for the tests."""

import itertools

SIZES = (2, 3, 5, 7, 16, 256)
# above these stand what is added where a doubled number leaves the field
CARRIES = {16: 19, 256: 283}
NO_SIZE = (True, False, None, "2", "", -2, 0, 1, 4, 6, 8, 9, 11, 15, 17, 255, 257, 10 ** 60, [2], (2,), ())
PLAN = ((1, 0), (1, 1), (1, 2))


def plus(size, one, other):
    return one ^ other if size in CARRIES else (one + other) % size


def product(size, one, other):
    """As [74] says it: along the binary digits of other, the highest first."""
    if size not in CARRIES:
        return one * other % size
    result = 0
    for digit in bin(other)[2:]:
        result *= 2
        if result >= size:
            result ^= CARRIES[size]
        if digit == "1":
            result ^= one
    return result


TABLES = {size: [[product(size, one, other) for other in range(size)] for one in range(size)] for size in SIZES}


def times(size, one, other):
    return TABLES[size][one][other]


def added(size, one, other):
    return tuple(plus(size, left, right) for left, right in zip(one, other))


def multiple(size, number, row):
    return tuple(times(size, number, own) for own in row)


def sum_of(size, wide, numbers, rows):
    total = (0,) * wide
    for number, row in zip(numbers, rows, strict=True):
        total = added(size, total, multiple(size, number, row))
    return total


def sums(size, wide, rows):
    """The set of all sums of multiples of the rows."""
    found = {(0,) * wide}
    for row in rows:
        multiples = [multiple(size, number, row) for number in range(size)]
        found = {added(size, one, other) for one in found for other in multiples}
    return found


def dot(size, one, other):
    total = 0
    for left, right in zip(one, other, strict=True):
        total = plus(size, total, times(size, left, right))
    return total


def unit(wide, at):
    return tuple(1 if place == at else 0 for place in range(wide))


def all_rows(size, wide):
    return itertools.product(range(size), repeat=wide)


def told(size, plan, kept):
    """The blocks whose unit rows are sums of multiples of the kept rows, by all sums."""
    many = len(plan[0])
    found = sums(size, many, [plan[place] for place in kept])
    return tuple(at for at in range(many) if unit(many, at) in found)


def kept_sets(many):
    return [kept for few in range(many + 1) for kept in itertools.combinations(range(many), few)]


# each with the size of its field
PLANS = (
    (5, PLAN), (2, ((1,),)), (2, ((0,),)), (2, ((1, 1, 0), (0, 1, 1), (1, 0, 1), (1, 1, 1))), (3, ((1, 2), (2, 1), (0, 0))),
    (7, ((1, 0, 0), (0, 1, 0), (0, 0, 1), (1, 2, 3), (6, 5, 4))), (16, ((3, 7), (9, 9), (15, 1), (0, 2))),
    (256, ((1, 1), (2, 2), (255, 254))), (2, ((0, 0), (0, 0))), (3, ((1, 0, 0, 2), (0, 0, 0, 1))),
    (2, ((1, 0, 0), (1, 1, 0), (0, 1, 0), (0, 0, 1), (0, 0, 0), (1, 1, 1))), (5, ((0, 3), (0, 1), (2, 0))),
)
NO_PLAN = (
    True, None, "0", 3, 0, [], [0], (), ((),), ((), ()), ((1, 0), (1,)), ((1, 0), None), ((1, 5),), ((1, -1),),
    ((1, True),), ([1, 0],), [(1, 0)], (1, 0), ((1, 0), [1, 1]), (("1", 0),), ((1, 10 ** 60),), ((1, 0), ()), (((1,),),),
)
