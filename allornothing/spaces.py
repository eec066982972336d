"""Spaces of rows."""

from allornothing.errors import InvalidRow
from allornothing.integers import is_integer
from allornothing.rows import is_row, is_spanned, rows_of_table, table_of


class Space:
    """The span of a list of rows of one width."""

    def __init__(self, width, rows):
        if not is_integer(width) or width < 1:
            raise InvalidRow(width)
        self._width = width
        self._table = table_of(rows, width)

    @property
    def width(self):
        return self._width

    @property
    def rows(self):
        return rows_of_table(self._table)

    def __contains__(self, x):
        return is_row(x, self._width) and is_spanned(self._table, x)

    def __len__(self):
        return len(self._table)

    def __bool__(self):
        return bool(self._table)

    def __eq__(self, other):
        return isinstance(other, Space) and self._width == other._width and self._table == other._table

    def __or__(self, other):
        if not self._fits(other):
            raise InvalidRow(other)
        return Space(self._width, rows_of_table(self._table) + rows_of_table(other._table))

    def is_within(self, other):
        """Tell whether another space has all rows of this one."""
        if not self._fits(other):
            raise InvalidRow(other)
        return all([row in other for row in rows_of_table(self._table)])

    def _fits(self, other):
        """Tell whether any value is a space of the same width."""
        return isinstance(other, Space) and self._width == other._width
