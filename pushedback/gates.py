"""Gates, which read streams as their digits come."""

from pushedback.checks import is_modulus, is_spoilt_by, is_stream_base
from pushedback.framing import read_on
from pushedback.guards import need
from pushedback.kinds import is_digits


class Gate:
    """A stream of a base, as far as it has come."""

    def __init__(self, base):
        need(is_stream_base(base), "base")
        self._base = base
        self._frames = ()
        self._waiting = None
        # whether the first digit since the last gap was a mark, None if none has come
        self._is_marked = None

    @property
    def frames_now(self):
        """All stacks returned so far."""
        return self._frames

    @property
    def waiting_now(self):
        """The row behind the last mark since the last gap, None if there is none."""
        return self._waiting

    @property
    def whole_now(self):
        """Whether what has come since the last gap begins and ends with a mark."""
        return self._is_marked is True and self._waiting == ()

    def feed(self, digits):
        """The stacks of the frames that end in the next digits."""
        stacks = self.read_digits(digits)
        self._frames = self._frames + stacks
        return stacks

    def read_digits(self, digits):
        """The stacks of the frames that end in the next digits, which are not kept yet."""
        need(is_digits(self._base, digits), "digits")
        if self._is_marked is None and len(digits) > 0:
            self._is_marked = digits[0] == self._base - 1
        stacks, self._waiting = read_on(self._base, self._waiting, digits)
        return tuple(stacks)

    def gap(self):
        """Begin a new scrap; the row that waited."""
        waiting = self._waiting
        self._waiting = None
        self._is_marked = None
        return waiting


class Checked(Gate):
    """A gate that lets only those frames pass whose stack the modulus divides."""

    def __init__(self, base, modulus):
        Gate.__init__(self, base)
        need(is_modulus(modulus), "modulus")
        self._modulus = modulus
        self._spoilt = ()

    @property
    def spoilt_now(self):
        """The stacks of the frames that did not pass."""
        return self._spoilt

    def feed(self, digits):
        """What pop_check gives for the frames that end in the next digits and pass."""
        stacks = self.read_digits(digits)
        modulus = self._modulus
        sound = tuple([stack // modulus for stack in stacks if not is_spoilt_by(stack, modulus)])
        self._spoilt = self._spoilt + tuple([stack for stack in stacks if is_spoilt_by(stack, modulus)])
        self._frames = self._frames + sound
        return sound
