"""Plans: pieces of blocks, any few of which may bring the blocks back."""

from pushedback.errors import Unmended
from pushedback.fieldrows import is_nought_row, lead_of, row_sum, settle, unit_row
from pushedback.fields import is_rows_of_one_width, is_field, is_field_plan, power_in
from pushedback.guards import need
from pushedback.kinds import is_positive, is_row_below
from pushedback.listings import sets_below
from pushedback.numberings import is_set_below


def is_points(size, thing):
    """Whether the thing is a tuple, not empty, of unlike numbers of the field."""
    return is_row_below(size, thing) and len(thing) > 0 and len(set(thing)) == len(thing)


def need_kept(size, plan, kept):
    """Refuse the first of a size, a plan and places of its rows that is not as it has to be."""
    need(is_field(size), "size")
    need(is_field_plan(size, plan), "plan")
    need(is_set_below(len(plan), kept), "kept")


def point_rows(size, points, many):
    """The powers of each point, from 0 on."""
    return tuple([tuple([power_in(size, point, at) for at in range(many)]) for point in points])


def pieces_by(size, plan, blocks):
    """What pieces_of gives, for parameters that are known to fit."""
    return tuple([row_sum(size, len(blocks[0]), row, blocks) for row in plan])


def solve(size, plan, kept, pieces):
    """The kept rows settled, each with what it gives behind it; and what the others give, noughts ahead of it."""
    rows = [plan[place] + piece for place, piece in zip(kept, pieces)]
    return settle(size, len(plan[0]), rows)


def are_nought_rows(rows):
    """Whether all numbers of all rows are 0: some blocks have the pieces exactly if it is so of what is left."""
    return all([is_nought_row(row) for row in rows])


def told_in(many, settled):
    """The blocks, of so many, that settled rows tell."""
    leads = [lead_of(row) for row in settled]
    return tuple([at for at, row in zip(leads, settled) if row[:many] == unit_row(many, at)])


def solved_blocks(many, settled):
    """The blocks, so many, that settled rows have behind them; Unmended if they do not tell all."""
    if len(settled) < many:
        told = told_in(many, settled)
        raise Unmended(tuple([at for at in range(many) if at not in told]))
    return tuple([row[many:] for row in settled])


def told_by(size, plan, kept):
    """What told_blocks gives, for parameters that are known to fit."""
    many = len(plan[0])
    return told_in(many, settle(size, many, [plan[place] for place in kept])[0])


def can_mend_by(size, plan, kept):
    """Whether the kept rows of the plan tell all blocks."""
    return len(told_by(size, plan, kept)) == len(plan[0])


def plan_by_points(size, points, many):
    """The plan whose rows are the powers 0 to many - 1 of the points."""
    need(is_field(size), "size")
    need(is_points(size, points), "points")
    need(is_positive(many), "many")
    return point_rows(size, points, many)


def pieces_of(size, plan, blocks):
    """The pieces of the blocks, one for each row of the plan."""
    need(is_field(size), "size")
    need(is_field_plan(size, plan), "plan")
    need(is_rows_of_one_width(size, blocks) and len(blocks) == len(plan[0]), "blocks")
    return pieces_by(size, plan, blocks)


def told_blocks(size, plan, kept):
    """The set of the blocks that the kept pieces tell."""
    need_kept(size, plan, kept)
    return told_by(size, plan, kept)


def can_mend(size, plan, kept):
    """Whether the kept pieces tell all blocks."""
    need_kept(size, plan, kept)
    return can_mend_by(size, plan, kept)


def mended(size, plan, kept, pieces):
    """The blocks that have these pieces at the kept places."""
    need_kept(size, plan, kept)
    need(is_rows_of_one_width(size, pieces) and len(pieces) == len(kept), "pieces")
    settled, left = solve(size, plan, kept, pieces)
    need(are_nought_rows(left), "pieces")
    return solved_blocks(len(plan[0]), settled)


def mending_sets(size, plan):
    """The set of all sets of as many places as there are blocks that can mend."""
    need(is_field(size), "size")
    need(is_field_plan(size, plan), "plan")
    return tuple([kept for kept in sets_below(len(plan), len(plan[0])) if can_mend_by(size, plan, kept)])
