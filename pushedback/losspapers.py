"""Papers that tell whether the kept pieces tell a block."""

from pushedback.fieldrows import multipliers_for, row_apart, unit_row
from pushedback.guards import need
from pushedback.kinds import is_number
from pushedback.mending import need_kept


def loss_paper(size, plan, kept, block):
    """A paper that tells how the kept rows give the block's unit row, or what is apart from all of them there."""
    need_kept(size, plan, kept)
    many = len(plan[0])
    need(is_number(block) and block < many, "block")
    rows = tuple([plan[place] for place in kept])
    multipliers = multipliers_for(size, many, rows, unit_row(many, block))
    if multipliers is None:
        return "alike", row_apart(size, many, rows, block)
    return "told", multipliers
