"""Streams of frames, each behind a mark, and what is read of scraps of them."""

from pushedback.checks import is_stream_base
from pushedback.digitrows import row_of, stack_of
from pushedback.guards import need
from pushedback.kinds import is_digits, is_positive, is_row


def is_stream(base, thing):
    """Whether the thing is a row of digits of the base that begins and ends with the mark."""
    return is_digits(base, thing) and thing[:1] == (base - 1,) and thing[-1] == base - 1


def stream_by(base, stacks):
    """What stream_of gives, for parameters that are known to fit."""
    mark = base - 1
    stream = [mark]
    for stack in stacks:
        stream.extend(row_of(mark, stack))
        stream.append(mark)
    return tuple(stream)


def read_on(base, waiting, digits):
    """A list of the stacks of the rows that end in the digits, and the row that waits for its end.

    What waits is the row behind the last mark, None if there is none.
    """
    mark = base - 1
    stacks = []
    row = waiting
    for digit in digits:
        if digit == mark:
            if row is not None:
                stacks.append(stack_of(mark, row))
            row = ()
        elif row is not None:
            row = row + (digit,)
    return stacks, row


def mark_places(base, stream):
    """The places of all marks, ascending."""
    return tuple([place for place, digit in enumerate(stream) if digit == base - 1])


def loss_between(marks, first, last):
    """How many digits the shortest loss has that breaks the frames from the first to the last."""
    if first == last:
        return 1
    # from the mark behind the first one to that ahead of the last one
    return marks[last] - marks[first + 1] + 1


def stream_of(base, stacks):
    """The stream with a frame for each of the stacks."""
    need(is_stream_base(base), "base")
    need(is_row(stacks), "stacks")
    return stream_by(base, stacks)


def frames_in(base, scrap):
    """A list of the stacks of all rows between a mark in the scrap and the next mark there."""
    need(is_stream_base(base), "base")
    need(is_digits(base, scrap), "scrap")
    return read_on(base, None, scrap)[0]


def starts_of(base, stream):
    """The set of the places of all marks of the stream."""
    need(is_stream_base(base), "base")
    need(is_stream(base, stream), "stream")
    return mark_places(base, stream)


def shortest_loss(base, stream, many):
    """How many digits the shortest loss has that breaks so many frames or more."""
    need(is_stream_base(base), "base")
    need(is_stream(base, stream), "stream")
    marks = mark_places(base, stream)
    frames = len(marks) - 1
    need(is_positive(many) and many <= frames, "many")
    return min([loss_between(marks, first, first + many - 1) for first in range(frames - many + 1)])
