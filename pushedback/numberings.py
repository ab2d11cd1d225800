"""Sets and orders, numbered as Python sorts them."""

from pushedback.guards import need
from pushedback.kinds import is_number, is_row_below
from pushedback.powers import choose, factorial_of


def is_set_below(many, thing):
    """Whether the thing is a set of numbers below many."""
    return is_row_below(many, thing) and all([thing[at] < thing[at + 1] for at in range(len(thing) - 1)])


def is_order(thing):
    """Whether the thing is a tuple in which each number below its length stands once."""
    if not isinstance(thing, tuple) or not is_row_below(len(thing), thing):
        return False
    return sorted(thing) == list(range(len(thing)))


def set_rank(many, things):
    """How many sets of as many numbers below many are ahead of this one."""
    need(is_number(many), "many")
    need(is_set_below(many, things), "things")
    rank = 0
    begin = 0
    for at, number in enumerate(things):
        for lesser in range(begin, number):
            rank = rank + choose(many - 1 - lesser, len(things) - 1 - at)
        begin = number + 1
    return rank


def set_by(many, few, rank):
    """The set of few numbers below many with this rank."""
    need(is_number(many), "many")
    need(is_number(few) and few <= many, "few")
    need(is_number(rank) and rank < choose(many, few), "rank")
    things = []
    left = rank
    number = 0
    while len(things) < few:
        skipped = choose(many - 1 - number, few - 1 - len(things))
        if left < skipped:
            things.append(number)
        else:
            left = left - skipped
        number += 1
    return tuple(things)


def order_rank(order):
    """How many orders of as many numbers are ahead of this one."""
    need(is_order(order), "order")
    rank = 0
    for at, number in enumerate(order):
        lesser = len([other for other in order[at + 1:] if other < number])
        rank = rank + lesser * factorial_of(len(order) - 1 - at)
    return rank


def order_by(many, rank):
    """The order of so many numbers with this rank."""
    need(is_number(many), "many")
    need(is_number(rank) and rank < factorial_of(many), "rank")
    left = list(range(many))
    rest = rank
    order = []
    while len(left) > 0:
        skipped = factorial_of(len(left) - 1)
        order.append(left[rest // skipped])
        del left[rest // skipped]
        rest = rest % skipped
    return tuple(order)
