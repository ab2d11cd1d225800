"""Rows cut into parts and joined again."""

from pushedback.guards import need
from pushedback.kinds import is_cuts, is_number, is_positive, is_row


def cut_row(digits, cuts):
    """The parts of a tuple of numbers, one more than cuts."""
    need(is_row(digits), "digits")
    need(is_cuts(len(digits), cuts), "cuts")
    begins = (0,) + cuts
    ends = cuts + (len(digits),)
    return tuple([digits[begin:end] for begin, end in zip(begins, ends)])


def joined(parts):
    """All parts put one behind the other."""
    need(isinstance(parts, tuple) and all([is_row(part) for part in parts]), "parts")
    whole = []
    for part in parts:
        whole.extend(part)
    return tuple(whole)


def all_cuts(many, parts):
    """All cuts of the length many into so many parts, ascending, one by one."""
    need(is_number(many), "many")
    need(is_positive(parts), "parts")
    cuts = [0 for _ in range(parts - 1)]
    while True:
        yield tuple(cuts)
        at = len(cuts) - 1
        while at >= 0 and cuts[at] == many:
            at -= 1
        if at < 0:
            return
        next_cut = cuts[at] + 1
        for place in range(at, len(cuts)):
            cuts[place] = next_cut
