"""Things sent as streams of pieces, and received from scraps."""

from pushedback.guards import need
from pushedback.kinds import is_number
from pushedback.packing import is_setup, need_scraps, packed_by, unpacked_by
from pushedback.schemecoder import pop_from, push_to
from pushedback.schemekinds import is_scheme
from pushedback.things import holds


def sent(setup, scheme, ground, thing):
    """The stream of what pushing the thing onto the ground gives."""
    need(is_setup(setup), "setup")
    need(is_scheme(scheme), "scheme")
    need(is_number(ground), "ground")
    need(holds(scheme, thing), "thing")
    return packed_by(setup, push_to(ground, scheme, thing))


def received(setup, scheme, scraps):
    """The thing and the ground that the scraps tell."""
    need(is_setup(setup), "setup")
    need(is_scheme(scheme), "scheme")
    need_scraps(setup, scraps)
    return pop_from(unpacked_by(setup, scraps), scheme)
