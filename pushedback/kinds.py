"""The plain kinds: integers, numbers, bases, quotients, rows of digits, texts, cuts."""

from math import gcd

from pushedback.guards import need


def is_integer(thing):
    """Whether the thing is an int and no bool."""
    return isinstance(thing, int) and not isinstance(thing, bool)


def is_number(thing):
    """Whether the thing is an integer that is at least 0."""
    return is_integer(thing) and thing >= 0


def is_positive(thing):
    """Whether the thing is an integer from 1 on."""
    return is_integer(thing) and thing >= 1


def is_base(thing):
    """Whether the thing is an integer from 2 to 256."""
    return is_integer(thing) and 2 <= thing <= 256


def is_pair(thing):
    """Whether the thing is a tuple of two values."""
    return isinstance(thing, tuple) and len(thing) == 2


def is_positive_pair(thing):
    """Whether the thing is a pair of integers from 1 on."""
    return is_pair(thing) and is_positive(thing[0]) and is_positive(thing[1])


def is_quotient(thing):
    """Whether the thing is a quotient in its lowest terms."""
    if not is_pair(thing):
        return False
    top, bottom = thing
    return is_integer(top) and is_positive(bottom) and gcd(top, bottom) == 1


def is_row(thing):
    """Whether the thing is a tuple of numbers."""
    return isinstance(thing, tuple) and all([is_number(part) for part in thing])


def is_row_below(limit, thing):
    """Whether the thing is a tuple of numbers below the limit."""
    return is_row(thing) and all([part < limit for part in thing])


def is_in_order(row):
    """Whether a row of numbers stands in ascending order."""
    return all([row[at] <= row[at + 1] for at in range(len(row) - 1)])


def is_digits(base, thing):
    """Whether the thing is a row of digits of the base."""
    need(is_base(base), "base")
    return is_row_below(base, thing)


def is_text(letters, thing):
    """Whether the thing is a text over so many letters."""
    need(is_number(letters), "letters")
    return is_row_below(letters, thing)


def is_cuts(many, thing):
    """Whether the thing is a tuple of numbers up to many, in ascending order."""
    need(is_number(many), "many")
    return is_row_below(many + 1, thing) and is_in_order(thing)
