"""Checks: stacks multiplied by a prime, so that spoilt ones are seen."""

from pushedback.digitrows import stack_of
from pushedback.errors import Spoilt
from pushedback.guards import need
from pushedback.kinds import is_base, is_digits, is_number

# all moduli are below it
MODULUS_BOUND = 300


def is_modulus(thing):
    """Whether the thing is a prime below 300."""
    if not is_number(thing) or thing < 2 or thing >= MODULUS_BOUND:
        return False
    return all([thing % lesser != 0 for lesser in range(2, thing)])


def is_stream_base(thing):
    """Whether the thing is a base from 3 on."""
    return is_base(thing) and thing > 2


def is_spoilt_by(stack, modulus):
    """What is_spoilt tells, for parameters that are known to fit."""
    return stack % modulus != 0


def push_check(stack, modulus):
    """The stack multiplied by the modulus."""
    need(is_number(stack), "stack")
    need(is_modulus(modulus), "modulus")
    return modulus * stack


def pop_check(stack, modulus):
    """The stack divided by the modulus; Spoilt if it is spoilt."""
    need(is_number(stack), "stack")
    need(is_modulus(modulus), "modulus")
    if is_spoilt_by(stack, modulus):
        raise Spoilt(stack)
    return stack // modulus


def is_spoilt(stack, modulus):
    """Whether the modulus does not divide the stack."""
    need(is_number(stack), "stack")
    need(is_modulus(modulus), "modulus")
    return is_spoilt_by(stack, modulus)


def seen_apart(base, modulus, one, other):
    """Whether the modulus does not divide the difference of the stacks of two rows of one length."""
    need(is_stream_base(base), "base")
    need(is_modulus(modulus), "modulus")
    need(is_digits(base - 1, one), "one")
    need(is_digits(base - 1, other) and len(other) == len(one), "other")
    return is_spoilt_by(abs(stack_of(base - 1, one) - stack_of(base - 1, other)), modulus)
