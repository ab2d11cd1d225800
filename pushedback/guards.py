"""How a parameter is refused."""

from pushedback.errors import NotUsable


def need(fits, word):
    """Refuse the parameter called word unless it fits."""
    if not fits:
        raise NotUsable(word, -1)
