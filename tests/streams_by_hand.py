"""Streams, frames and pieces by their definitions, for the tests."""

import itertools

from tests import fieldsums


def stack_of(base, digits):
    """The stack of a row as [4] says it."""
    stack = sum(base ** at for at in range(len(digits)))
    for at, digit in enumerate(digits):
        stack += digit * base ** (len(digits) - 1 - at)
    return stack


def row_of(base, stack):
    """The one row with this stack, by the number of its digits."""
    many = 0
    while stack >= base ** many:
        stack -= base ** many
        many += 1
    digits = []
    for at in range(many - 1, -1, -1):
        digits.append(stack // base ** at)
        stack %= base ** at
    return tuple(digits)


def stream_of(base, stacks):
    return sum((row_of(base - 1, stack) + (base - 1,) for stack in stacks), (base - 1,))


def frames_in(base, scrap):
    """The stacks of all rows between a mark and the next one."""
    marks = [at for at, digit in enumerate(scrap) if digit == base - 1]
    return [stack_of(base - 1, scrap[begin + 1:end]) for begin, end in zip(marks, marks[1:])]


def broken(base, stream, begin, many):
    """The frames that a loss of so many digits from there breaks."""
    marks = [at for at, digit in enumerate(stream) if digit == base - 1]
    return {
        frame for frame, (first, last) in enumerate(zip(marks, marks[1:])) if first < begin + many and begin <= last}


def losses(stream):
    """All losses of the stream, shorter ones first."""
    for many in range(1, len(stream) + 1):
        for begin in range(len(stream) - many + 1):
            yield begin, many


def blocks_in_order(size, many):
    """All tuples of so many blocks, by their width, those of one width ascending."""
    for wide in itertools.count():
        rows = list(itertools.product(range(size), repeat=wide))
        yield from itertools.product(rows, repeat=many)


def number_of_blocks(size, blocks):
    """How many blocks are ahead of these."""
    number = sum(size ** (len(blocks) * wide) for wide in range(len(blocks[0])))
    digits = [digit for block in blocks for digit in block]
    return number + sum(digit * size ** (len(digits) - 1 - at) for at, digit in enumerate(digits))


def frames_of(setup, blocks):
    """The stacks of the frames in which the blocks are packed."""
    base, modulus, size, plan = setup
    frames = []
    for at, row in enumerate(plan):
        piece = fieldsums.sum_of(size, len(blocks[0]), row, blocks)
        frames.append(modulus * (len(plan) * stack_of(size, piece) + at))
    return frames
