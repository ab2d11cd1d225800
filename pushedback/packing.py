"""Stacks in pieces: packed into a stream, and brought back from its scraps."""

from pushedback.checks import is_modulus, is_spoilt_by, is_stream_base
from pushedback.digitrows import digits_of, row_of, stack_of, value_of
from pushedback.fields import is_field, is_field_plan, is_rows_of_one_width
from pushedback.framing import is_stream, loss_between, mark_places, read_on, stream_by
from pushedback.guards import need
from pushedback.kinds import is_digits, is_number, is_positive
from pushedback.mending import are_nought_rows, can_mend_by, pieces_by, solve, solved_blocks
from pushedback.powers import power


def is_setup(thing):
    """Whether any value is a quadruple of a base, a prime above it, and a field's size with a plan over it."""
    if not isinstance(thing, tuple) or len(thing) != 4:
        return False
    base, modulus, size, plan = thing
    if not is_stream_base(base) or not is_modulus(modulus) or modulus <= base:
        return False
    return is_field(size) and is_field_plan(size, plan)


def is_scraps(base, thing):
    """Whether the thing is a tuple of rows of digits of the base."""
    return isinstance(thing, tuple) and all([is_digits(base, scrap) for scrap in thing])


def blocks_by(size, many, stack):
    """What blocks_of gives, for parameters that are known to fit."""
    # all blocks of one number of places more are so many times as many
    step = power(size, many)
    wide = 0
    alike = 1
    left = stack
    while left >= alike:
        left = left - alike
        alike = step * alike
        wide += 1
    digits = digits_of(size, left, many * wide)
    return tuple([digits[at * wide:(at + 1) * wide] for at in range(many)])


def number_of_blocks(size, blocks):
    """What stack_of_blocks gives, for parameters that are known to fit."""
    step = power(size, len(blocks))
    digits = [digit for block in blocks for digit in block]
    number = value_of(size, digits)
    alike = 1
    for _ in blocks[0]:
        number = number + alike
        alike = step * alike
    return number


def packed_by(setup, stack):
    """What packed gives, for parameters that are known to fit."""
    base, modulus, size, plan = setup
    pieces = pieces_by(size, plan, blocks_by(size, len(plan[0]), stack))
    # as push_even and then push_check
    frames = [modulus * (len(pieces) * stack_of(size, piece) + at) for at, piece in enumerate(pieces)]
    return stream_by(base, frames)


def told_pieces(setup, scraps):
    """What pieces_in gives, for parameters that are known to fit."""
    base, modulus, size, plan = setup
    stacks = []
    for scrap in scraps:
        stacks.extend(read_on(base, None, scrap)[0])
    sound = [stack // modulus for stack in stacks if not is_spoilt_by(stack, modulus)]
    return [(stack % len(plan), row_of(size, stack // len(plan))) for stack in sound]


def counting_pieces(told):
    """Of the pairs told, those that count, as a dict: as wide as the first one, and the first with their place."""
    pieces = {}
    for place, piece in told:
        if len(piece) == len(told[0][1]) and place not in pieces:
            pieces[place] = piece
    return pieces


def unpacked_by(setup, scraps):
    """What unpacked gives, for parameters that are known to fit."""
    size, plan = setup[2:]
    pieces = counting_pieces(told_pieces(setup, scraps))
    kept = tuple(sorted(pieces))
    settled, left = solve(size, plan, kept, [pieces[place] for place in kept])
    need(are_nought_rows(left), "scraps")
    return number_of_blocks(size, solved_blocks(len(plan[0]), settled))


def breaks_plan(size, plan, first, last):
    """Whether the rows of the plan but those from the first to the last cannot mend."""
    kept = [place for place in range(len(plan)) if place < first or place > last]
    return not can_mend_by(size, plan, kept)


def need_scraps(setup, scraps):
    """Refuse scraps that are no tuple of rows of digits of the setup's base."""
    need(is_scraps(setup[0], scraps), "scraps")


def blocks_of(size, many, stack):
    """The many blocks with this number."""
    need(is_field(size), "size")
    need(is_positive(many), "many")
    need(is_number(stack), "stack")
    return blocks_by(size, many, stack)


def stack_of_blocks(size, blocks):
    """The number of the blocks."""
    need(is_field(size), "size")
    need(is_rows_of_one_width(size, blocks) and len(blocks) > 0, "blocks")
    return number_of_blocks(size, blocks)


def packed(setup, stack):
    """The stream of the stack's pieces."""
    need(is_setup(setup), "setup")
    need(is_number(stack), "stack")
    return packed_by(setup, stack)


def pieces_in(setup, scraps):
    """A list of the pairs of a place and a piece that the scraps tell."""
    need(is_setup(setup), "setup")
    need_scraps(setup, scraps)
    return told_pieces(setup, scraps)


def unpacked(setup, scraps):
    """The stack whose pieces the scraps tell."""
    need(is_setup(setup), "setup")
    need_scraps(setup, scraps)
    return unpacked_by(setup, scraps)


def shortest_break(setup, stream):
    """How many digits the shortest loss has behind which the stream cannot be mended; 0 if it never can."""
    need(is_setup(setup), "setup")
    base, size, plan = setup[0], setup[2], setup[3]
    need(is_stream(base, stream), "stream")
    marks = mark_places(base, stream)
    many = len(plan)
    need(len(marks) == many + 1, "stream")
    if not can_mend_by(size, plan, list(range(many))):
        return 0
    losses = [
        loss_between(marks, first, last) for first in range(many) for last in range(first, many)
        if breaks_plan(size, plan, first, last)
    ]
    return min(losses)
