"""The checker of papers about losses."""

from pushedback.errors import InvalidPaper
from pushedback.fieldrows import row_product, row_sum
from pushedback.fields import is_field_row
from pushedback.guards import need
from pushedback.kinds import is_number, is_pair
from pushedback.mending import need_kept


def lets_loss(size, plan, kept, block, thing):
    """The word of a paper that is true of the kept pieces and the block."""
    need_kept(size, plan, kept)
    need(is_number(block) and block < len(plan[0]), "block")
    if not is_pair(thing):
        raise InvalidPaper("shape", -1)
    word, told = thing
    if word == "told":
        check_told(size, plan, kept, block, told)
    elif word == "alike":
        check_alike(size, plan, kept, block, told)
    else:
        raise InvalidPaper("word", -1)
    return word


def check_told(size, plan, kept, block, told):
    """Raise the first entry that applies to what should be the multipliers of the block's unit row."""
    if not is_field_row(size, len(kept), told):
        raise InvalidPaper("multipliers", -1)
    rows = [plan[place] for place in kept]
    for at, number in enumerate(row_sum(size, len(plan[0]), told, rows)):
        if number != int(at == block):
            raise InvalidPaper("sum", at)


def check_alike(size, plan, kept, block, told):
    """Raise the first entry that applies to what should be a row apart from all kept ones."""
    if not is_field_row(size, len(plan[0]), told):
        raise InvalidPaper("digits", -1)
    if told[block] == 0:
        raise InvalidPaper("nought", -1)
    for place in kept:
        if row_product(size, told, plan[place]) != 0:
            raise InvalidPaper("product", place)
