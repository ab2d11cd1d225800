"""Schemes as objects that never change."""

from pushedback.guards import need
from pushedback.hiddens import pick_table, picks_of, thing_by
from pushedback.schemecoder import pop_thing, push_thing
from pushedback.schemekinds import are_schemes, is_scheme, levels_of
from pushedback.schemeleans import lean_of_thing
from pushedback.schemereadings import read_scheme
from pushedback.schemetexts import scheme_line
from pushedback.tables import is_table
from pushedback.things import chance_in, how_many, is_thing


class Scheme:
    """A scheme, to push and to pop things by."""

    def __init__(self, form):
        need(is_scheme(form), "form")
        self._form = form

    @property
    def form_now(self):
        """The scheme by form."""
        return self._form

    @property
    def levels_now(self):
        """How many levels it has."""
        return levels_of(self._form)

    @property
    def many_now(self):
        """How many things it has."""
        return how_many(self._form)

    def pushed(self, stack, thing):
        """The stack with the thing pushed."""
        return push_thing(stack, self._form, thing)

    def popped(self, stack):
        """The thing popped, and the stack that is left."""
        return pop_thing(stack, self._form)

    def chance(self, thing):
        """The chance of any value, nought for one that is no thing."""
        return chance_in(self._form, thing)

    def lean(self, thing):
        """The lean of the thing."""
        return lean_of_thing(self._form, thing)

    def __contains__(self, thing):
        """Whether any value is a thing of the scheme."""
        return is_thing(self._form, thing)

    def __str__(self):
        return str(scheme_line(self._form))

    def __eq__(self, other):
        return isinstance(other, Scheme) and self._form == other._form

    def __add__(self, other):
        """The Scheme of the row of both forms."""
        need(isinstance(other, Scheme), "other")
        return Scheme(("row", (self._form, other._form)))

    @staticmethod
    def read(text):
        """The Scheme that the line writes."""
        return Scheme(read_scheme(text))


class Hidden(Scheme):
    """A hidden scheme, of its counts and its schemes."""

    def __init__(self, counts, *schemes):
        need(is_table(counts), "counts")
        need(are_schemes(schemes) and len(schemes) == len(counts), "schemes")
        Scheme.__init__(self, ("hidden", counts, schemes))

    def picks(self, thing):
        """The set of the letters of whose schemes the thing is one."""
        return picks_of(self._form, thing)

    def table_for(self, thing):
        """The table by which the letter of the thing is popped."""
        return pick_table(self._form, thing)

    def picked(self, stack, thing):
        """The letter that pushing the thing pops, and the stack just after that."""
        return thing_by(stack, self._form, thing)
