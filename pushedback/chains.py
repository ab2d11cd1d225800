"""Chains: texts turned by several steps, and turned back."""

from pushedback.guards import need
from pushedback.kinds import is_positive, is_row_below
from pushedback.lifting import is_ladder, lifted_in, unlifted_in
from pushedback.rings import turned, unturned
from pushedback.shifts import by_columns, by_rows, fronts_of, text_of_fronts

# each word of a step, and that of the step that undoes it
UNDOING = {
    "turned": "unturned", "unturned": "turned", "backward": "backward", "columns": "rows", "rows": "columns",
    "fronts": "unfronts", "unfronts": "fronts", "lifted": "unlifted", "unlifted": "lifted",
}
COUNT_KEEPING = ("turned", "unturned", "backward", "columns", "rows")


def is_chain_step(thing):
    """Whether the thing is a step of a chain."""
    if not isinstance(thing, tuple):
        return False
    if len(thing) == 1:
        return thing[0] in ("turned", "unturned", "backward", "fronts", "unfronts")
    if len(thing) != 2:
        return False
    if thing[0] in ("columns", "rows"):
        return is_positive(thing[1])
    return thing[0] in ("lifted", "unlifted") and is_ladder(thing[1])


def is_chain(thing):
    """Whether the thing is a tuple of steps."""
    return isinstance(thing, tuple) and all([is_chain_step(part) for part in thing])


def undoing_step(step):
    """The step that undoes this one."""
    return (UNDOING[step[0]],) + step[1:]


def undoing_chain(chain):
    """The chain of the steps that undo these, the last one first."""
    return tuple([undoing_step(step) for step in chain[::-1]])


def text_after(step, letters, text):
    """The text after one step."""
    word = step[0]
    if word == "turned":
        return turned(text)
    if word == "unturned":
        return unturned(text)
    if word == "backward":
        return text[::-1]
    if word == "columns":
        return by_columns(step[1], text)
    if word == "rows":
        return by_rows(step[1], text)
    if word == "fronts":
        return fronts_of(letters, text)
    if word == "unfronts":
        return text_of_fronts(letters, text)
    if word == "lifted":
        return lifted_in(letters, step[1], text)
    return unlifted_in(letters, step[1], text)


def text_by_chain(chain, letters, text):
    """What turned_by gives, for parameters that are known to fit."""
    result = text
    for step in chain:
        result = text_after(step, letters, result)
    return result


def need_turnable(chain, letters, text):
    """Refuse the first of a chain, a number of letters and a text that is not as it has to be."""
    need(is_chain(chain), "chain")
    need(is_positive(letters), "letters")
    need(is_row_below(letters, text), "text")


def turned_by(chain, letters, text):
    """The text after all steps."""
    need_turnable(chain, letters, text)
    return text_by_chain(chain, letters, text)


def turned_back(chain, letters, text):
    """The text that turned_by turns into this one."""
    need_turnable(chain, letters, text)
    return text_by_chain(undoing_chain(chain), letters, text)


def keeps_counts(chain):
    """Whether all steps leave the letters as often as they are."""
    need(is_chain(chain), "chain")
    return all([step[0] in COUNT_KEEPING for step in chain])
