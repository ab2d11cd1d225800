"""Papers that tell whether a claim can be kept."""

from pushedback.claims import overdrawn
from pushedback.evenstrips import strip_by


def claim_paper(growths, extra):
    """A paper that lets_claim accepts."""
    bound = overdrawn(growths, extra)
    if bound is None:
        return "strip", strip_by(growths)
    return "over", bound
