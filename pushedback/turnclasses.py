"""Chains of turnings as objects that never change."""

from pushedback.chains import is_chain, is_chain_step, turned_back, turned_by, undoing_chain
from pushedback.guards import need
from pushedback.leastwords import least_words


class Turning:
    """A chain of steps, to turn texts by."""

    def __init__(self, *chain):
        need(is_chain(chain), "chain")
        self._chain = chain

    @property
    def chain_now(self):
        """The chain."""
        return self._chain

    def __call__(self, letters, text):
        """The text after all steps."""
        return turned_by(self._chain, letters, text)

    def back(self, letters, text):
        """The text that is turned into this one."""
        return turned_back(self._chain, letters, text)

    def __len__(self):
        return len(self._chain)

    def __iter__(self):
        return iter(self._chain)

    def __contains__(self, thing):
        """Whether any value is one of the steps."""
        # a look at its kind first, since in a step True would be taken for 1
        return is_chain_step(thing) and thing in self._chain

    def __invert__(self):
        """The Turning of the steps that undo these, the last one first."""
        chain = undoing_chain(self._chain)
        return Turning(*chain)

    def __add__(self, other):
        """The Turning of these steps and then those of other."""
        need(isinstance(other, Turning), "other")
        chain = self._chain + other._chain
        return Turning(*chain)

    def __eq__(self, other):
        return isinstance(other, Turning) and self._chain == other._chain

    @classmethod
    def undoing(cls, *chain):
        """The Turning of the steps that undo these, the last one first."""
        return ~Turning(*chain)


class Ringed(Turning):
    """The chain of one turning."""

    def __init__(self):
        Turning.__init__(self, ("turned",))

    def rings_for(self, text):
        """The text's least words in ascending order."""
        return tuple(sorted(least_words(text)))
