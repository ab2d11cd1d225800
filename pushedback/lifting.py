"""Lifting: samples changed step by step by their neighbours, and changed back."""

from pushedback.guards import need
from pushedback.kinds import is_integer, is_positive, is_row_below


def is_step(thing):
    """Whether the thing is a triple of a side, a top and a bottom."""
    if not isinstance(thing, tuple) or len(thing) != 3:
        return False
    side, top, bottom = thing
    return is_integer(side) and side in (0, 1) and is_integer(top) and is_positive(bottom)


def is_ladder(thing):
    """Whether the thing is a tuple of steps."""
    return isinstance(thing, tuple) and all([is_step(part) for part in thing])


def is_samples(thing):
    """Whether the thing is a tuple of integers."""
    return isinstance(thing, tuple) and all([is_integer(part) for part in thing])


def neighbour_sum(samples, place):
    """The sum of both neighbours, the one counting twice if the other is not there; there are two samples at least."""
    before = abs(place - 1)
    behind = place + 1
    if behind == len(samples):
        behind = before
    return samples[before] + samples[behind]


def after_step(step, sign, samples):
    """The samples after a step, with sign -1 after taking it back."""
    side, top, bottom = step
    # a sample alone has no neighbours
    if len(samples) < 2:
        return samples
    changed = list(samples)
    for place in range(side, len(samples), 2):
        changed[place] = samples[place] + sign * (top * neighbour_sum(samples, place) // bottom)
    return changed


def lifted(ladder, samples):
    """The samples after all steps."""
    need(is_ladder(ladder), "ladder")
    need(is_samples(samples), "samples")
    result = samples
    for step in ladder:
        result = after_step(step, 1, result)
    return tuple(result)


def unlifted(ladder, samples):
    """The samples that are lifted to these."""
    need(is_ladder(ladder), "ladder")
    need(is_samples(samples), "samples")
    result = samples
    for step in ladder[::-1]:
        result = after_step(step, -1, result)
    return tuple(result)


def lifted_in(many, ladder, samples):
    """The samples after all steps, those of each step being taken mod many."""
    need(is_positive(many), "many")
    need(is_ladder(ladder), "ladder")
    need(is_row_below(many, samples), "samples")
    result = samples
    for step in ladder:
        result = [sample % many for sample in after_step(step, 1, result)]
    return tuple(result)


def unlifted_in(many, ladder, samples):
    """The samples that are lifted to these, those of each step being taken mod many."""
    need(is_positive(many), "many")
    need(is_ladder(ladder), "ladder")
    need(is_row_below(many, samples), "samples")
    result = samples
    for step in ladder[::-1]:
        result = [sample % many for sample in after_step(step, -1, result)]
    return tuple(result)
