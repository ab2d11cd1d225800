"""Tables as objects that never change."""

from pushedback.evenstrips import even_strip
from pushedback.guards import need
from pushedback.leans import chance_of, lean_of
from pushedback.rowcoder import lean_of_row
from pushedback.strips import pop_strip, push_strip
from pushedback.tablecoder import pop_by, push_by
from pushedback.tables import is_letter, is_table, strip_of, used_letters


def counts_joined(one, other):
    """The counts of two tables added place by place, with noughts behind the shorter one."""
    size = max([len(one), len(other)])
    return tuple([sum(one[at:at + 1]) + sum(other[at:at + 1]) for at in range(size)])


class Table:
    """A table of counts, to push and to pop letters by."""

    def __init__(self, *counts):
        need(is_table(counts), "counts")
        self._counts = counts
        self._letters = used_letters(counts)

    @property
    def counts_now(self):
        """The counts."""
        return self._counts

    @property
    def sum_now(self):
        """The sum of the counts."""
        return sum(self._counts)

    @property
    def letters_now(self):
        """The set of the letters."""
        return self._letters

    @property
    def strip_now(self):
        """The strip of the table."""
        return strip_of(self._counts)

    def pushed(self, stack, letter):
        """The stack with the letter pushed."""
        # as by the strip, but without one, so that counts may be of any size
        return push_by(stack, self._counts, letter)

    def popped(self, stack):
        """The letter popped, and the stack that is left."""
        return pop_by(stack, self._counts)

    def lean(self, letter):
        """The lean of the letter."""
        need(is_letter(self._counts, letter), "letter")
        return lean_of_row((self._counts,), (letter,))

    def chance(self, letter):
        """The letter's count by the sum."""
        return chance_of(self._counts, letter)

    def __getitem__(self, at):
        """The count of the letter at."""
        need(is_letter(self._counts, at), "letter")
        return self._counts[at]

    def __contains__(self, thing):
        """Whether any value is a letter of the table."""
        return is_letter(self._counts, thing)

    def __len__(self):
        return len(self._letters)

    def __iter__(self):
        return iter(self._letters)

    def __eq__(self, other):
        return isinstance(other, Table) and not isinstance(other, Evened) and self._counts == other._counts

    def __add__(self, other):
        """The Table of the sums of both ones' counts."""
        need(isinstance(other, Table), "other")
        counts = counts_joined(self._counts, other._counts)
        return Table(*counts)


class Evened(Table):
    """A table that pushes and pops by its even strip; all that the interface lists for both stands in both."""

    def __init__(self, *counts):
        Table.__init__(self, *counts)

    @property
    def counts_now(self):
        """The counts."""
        return self._counts

    @property
    def sum_now(self):
        """The sum of the counts."""
        return sum(self._counts)

    @property
    def letters_now(self):
        """The set of the letters."""
        return self._letters

    @property
    def strip_now(self):
        """The even strip of the table."""
        return even_strip(self._counts)

    def pushed(self, stack, letter):
        """The stack with the letter pushed."""
        return push_strip(stack, even_strip(self._counts), letter)

    def popped(self, stack):
        """The letter popped, and the stack that is left."""
        return pop_strip(stack, even_strip(self._counts))

    def lean(self, letter):
        """The lean of the letter."""
        return lean_of(even_strip(self._counts), letter)

    def chance(self, letter):
        """The letter's count by the sum."""
        return chance_of(self._counts, letter)

    def __getitem__(self, at):
        """The count of the letter at."""
        need(is_letter(self._counts, at), "letter")
        return self._counts[at]

    def __contains__(self, thing):
        """Whether any value is a letter of the table."""
        return is_letter(self._counts, thing)

    def __len__(self):
        return len(self._letters)

    def __iter__(self):
        return iter(self._letters)

    def __eq__(self, other):
        return isinstance(other, Evened) and self._counts == other._counts

    def __add__(self, other):
        """The Evened of the sums of both ones' counts."""
        need(isinstance(other, Table), "other")
        counts = counts_joined(self._counts, other._counts)
        return Evened(*counts)
