"""Powers, common divisors and multiples, and how many sets and orders there are."""

from math import comb, factorial, gcd, lcm

from pushedback.guards import need
from pushedback.kinds import is_integer, is_number, is_positive


def power(base, many):
    """Any integer to the power of a number."""
    need(is_integer(base), "base")
    need(is_number(many), "many")
    result = 1
    square = base
    left = many
    while left > 0:
        if left & 1 == 1:
            result = result * square
        left = left // 2
        if left > 0:
            square = square * square
    return result


def common_of(one, other):
    """The greatest number that divides both, 0 for two noughts."""
    need(is_number(one), "one")
    need(is_number(other), "other")
    return gcd(one, other)


def multiple_of(numbers):
    """The least number above 0 that all of the numbers divide."""
    fits = isinstance(numbers, tuple) and all([is_positive(number) for number in numbers])
    need(fits, "numbers")
    multiple = 1
    for number in numbers:
        multiple = lcm(multiple, number)
    return multiple


def choose(many, few):
    """How many sets of few of the numbers below many there are."""
    need(is_number(many), "many")
    need(is_number(few), "few")
    return comb(many, few)


def factorial_of(many):
    """1 times 2 and so on up to many."""
    need(is_number(many), "many")
    return factorial(many)
