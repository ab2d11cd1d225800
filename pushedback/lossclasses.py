"""Plans as objects that never change."""

from pushedback.fields import is_field, is_field_plan, is_field_row
from pushedback.guards import need
from pushedback.kinds import is_number, is_positive
from pushedback.losspapers import loss_paper
from pushedback.mending import can_mend, is_points, mended, pieces_of, point_rows, told_blocks
from pushedback.numberings import is_set_below


class Plan:
    """A plan over a field, to make pieces of blocks and blocks of pieces by."""

    def __init__(self, size, *rows):
        need(is_field(size), "size")
        need(is_field_plan(size, rows), "rows")
        self._size = size
        self._rows = rows

    @property
    def size_now(self):
        """The size of the field."""
        return self._size

    @property
    def plan_now(self):
        """The plan."""
        return self._rows

    def __call__(self, kept):
        """Whether the kept pieces tell all blocks."""
        return can_mend(self._size, self._rows, kept)

    def __getitem__(self, at):
        """The row at the place at."""
        need(is_number(at) and at < len(self._rows), "place")
        return self._rows[at]

    def pieces(self, blocks):
        """The pieces of the blocks."""
        return pieces_of(self._size, self._rows, blocks)

    def told(self, kept):
        """The set of the blocks that the kept pieces tell."""
        return told_blocks(self._size, self._rows, kept)

    def mended(self, kept, pieces):
        """The blocks that have these pieces at the kept places."""
        return mended(self._size, self._rows, kept, pieces)

    def paper(self, kept, block):
        """A paper that tells whether the kept pieces tell the block."""
        return loss_paper(self._size, self._rows, kept, block)

    def __len__(self):
        return len(self._rows)

    def __iter__(self):
        return iter(self._rows)

    def __contains__(self, thing):
        """Whether any value is one of the rows."""
        # a look at its kind first, since in a row True would be taken for 1
        return is_field_row(self._size, len(self._rows[0]), thing) and thing in self._rows

    def __eq__(self, other):
        return isinstance(other, Plan) and self._size == other._size and self._rows == other._rows

    def __add__(self, other):
        """The Plan of the rows of both, those of other behind."""
        need(isinstance(other, Plan) and self._size == other._size, "other")
        rows = self._rows + other._rows
        need(is_field_plan(self._size, rows), "other")
        return Plan(self._size, *rows)


class Points(Plan):
    """The plan of the powers of points."""

    def __init__(self, size, many, *points):
        need(is_field(size), "size")
        need(is_positive(many), "many")
        need(is_points(size, points), "points")
        rows = point_rows(size, points, many)
        Plan.__init__(self, size, *rows)
        self._points = points

    @property
    def many_now(self):
        """How many blocks there are."""
        return len(self._rows[0])

    @property
    def points_now(self):
        """The points."""
        return self._points

    def lacking(self, kept):
        """How many more pieces it takes to tell all blocks."""
        need(is_set_below(len(self._rows), kept), "kept")
        return max([0, self.many_now - len(kept)])
