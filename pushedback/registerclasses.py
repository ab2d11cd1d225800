"""Registers as objects that never change."""

from pushedback.guards import need
from pushedback.kinds import is_number
from pushedback.registerkinds import is_register_base, is_register_least, is_state
from pushedback.streams import read_text, wide_of, write_text
from pushedback.stretches import is_exact, is_exact_by, stretch_of
from pushedback.tables import is_table, strip_of
from pushedback.widening import next_exact


def is_exact_table(holder, thing):
    """Whether the thing is a table whose strip fits the register and is exact for it."""
    # the sum is looked at ahead of the strip, which may be too long to be made
    if not is_table(thing) or sum(thing) > holder[1]:
        return False
    return is_exact_by(holder, strip_of(thing))


class Register:
    """A base and a least state."""

    def __init__(self, base, least):
        need(is_register_base(base), "base")
        need(is_register_least(least), "least")
        self._form = (base, least)

    @property
    def base_now(self):
        """The base."""
        return self._form[0]

    @property
    def least_now(self):
        """The least state."""
        return self._form[1]

    @property
    def form_now(self):
        """The pair of the base and the least state."""
        return self._form

    @property
    def wide_now(self):
        """How many digits a state is written with."""
        return wide_of(self._form)

    def __call__(self, strip, letter):
        """The stretch of the letter."""
        return stretch_of(self._form, strip, letter)

    def exact(self, strip):
        """Whether the strip is exact for the register."""
        return is_exact(self._form, strip)

    def write_all(self, strips, text):
        """The row of digits of the text."""
        return write_text(self._form, strips, text)

    def read_all(self, strips, digits):
        """The text of the row of digits."""
        return read_text(self._form, strips, digits)

    def wider(self, strip):
        """The next Register for which the strip is exact."""
        base, least = next_exact(self._form, strip)
        return Register(base, least)

    def __contains__(self, thing):
        """Whether any value is a state."""
        return is_state(self._form, thing)

    def __len__(self):
        return len(range(self._form[1], self._form[0] * self._form[1]))

    def __str__(self):
        return f"register {self._form[0]} {self._form[1]}"

    def __eq__(self, other):
        return isinstance(other, Register) and self._form == other._form

    @classmethod
    def least_for(cls, base, strip):
        """The first Register of the base for which the strip is exact."""
        need(is_register_base(base), "base")
        least = next_exact((base, 1), strip)[1]
        return cls(base, least)


class Ready(Register):
    """A register with a table that is exact for it."""

    def __init__(self, base, least, table):
        Register.__init__(self, base, least)
        need(is_exact_table((base, least), table), "table")
        self._table = table
        self._strip = strip_of(table)

    @property
    def table_now(self):
        """The table."""
        return self._table

    @property
    def strip_now(self):
        """The strip of the table."""
        return self._strip

    def written(self, text):
        """The row of digits of a text of the table's letters."""
        need(isinstance(text, tuple), "text")
        strips = tuple([self._strip for _ in text])
        return write_text(self._form, strips, text)

    def text_in(self, many, digits):
        """The text of so many letters of the row of digits."""
        need(is_number(many), "many")
        strips = tuple([self._strip for _ in range(many)])
        return read_text(self._form, strips, digits)
