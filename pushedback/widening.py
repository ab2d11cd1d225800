"""The next wider registers for which strips are exact."""

from pushedback.guards import need
from pushedback.kinds import is_positive
from pushedback.registerkinds import is_register
from pushedback.stretches import rests_by
from pushedback.tables import is_strip


def next_exact(holder, strip):
    """The register with the next least state for which the strip fits and is exact."""
    need(is_register(holder), "holder")
    need(is_strip(strip), "strip")
    base, least = holder
    size = len(strip)
    rests = rests_by(base, strip)
    wider = max([least, size])
    while wider % size not in rests:
        wider += 1
    return base, wider


def next_for_all(holder, many):
    """The register with the next least state that many divides."""
    need(is_register(holder), "holder")
    need(is_positive(many), "many")
    base, least = holder
    return base, -(-least // many) * many
