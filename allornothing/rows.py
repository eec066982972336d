"""Rows of integers, and what they span."""

from math import gcd, lcm

from allornothing.errors import InvalidRow
from allornothing.integers import are_integers


def reduced(rows, width):
    """Return the reduced rows with the span of a list of rows."""
    return rows_of_table(table_of(rows, width))


def kernel(rows, width):
    """Return rows that span those whose product with each of the rows is 0."""
    table = table_of(rows, width)
    return [kernel_row(table, at, width) for at in range(width) if at not in table]


def product(one, other):
    """Return the sum of the products of the numbers at the same places."""
    return sum([number * factor for number, factor in zip(one, other)])


def is_row(value, width):
    """Tell whether any value is a row of this width."""
    return isinstance(value, tuple) and len(value) == width and are_integers(value)


def lead_of(row):
    """Return the place of the first number other than 0, or the width if there is none."""
    for at, number in enumerate(row):
        if number != 0:
            return at
    return len(row)


def primitive(row):
    """Return the multiple without a common factor whose first number other than 0 is above 0."""
    common = 0
    for number in row:
        common = gcd(common, number)
    if common == 0:
        return tuple(row)
    if row[lead_of(row)] < 0:
        common = -common
    return tuple([number // common for number in row])


def cleared(row, other, lead):
    """Return a multiple of a row, less one of the other row, that has 0 at the place."""
    factor = other[lead]
    times = row[lead]
    if factor == 1:
        return tuple([number - times * taken for number, taken in zip(row, other)])
    # Without this, the numbers would grow with each row.
    return primitive([factor * number - times * taken for number, taken in zip(row, other)])


def table_of(rows, width):
    """Return the table of the reduced rows with the span of some rows.

    A table is a dict from the places of the first numbers other than 0 to the
    reduced rows.
    """
    for row in rows:
        if not is_row(row, width):
            raise InvalidRow(row)
    table = {}
    for row in rows:
        table = joined(table, row)
    return table


def rows_of_table(table):
    """Return the list of the reduced rows of a table."""
    return [table[lead] for lead in sorted(table)]


def rest_of(table, row):
    """Return what is left of a row behind the rows of a table: zeros if they span it."""
    rest = row
    for lead, other in table.items():
        if rest[lead] != 0:
            rest = cleared(rest, other, lead)
    return rest


def is_spanned(table, row):
    """Tell whether the rows of a table span a row."""
    return lead_of(rest_of(table, row)) == len(row)


def joined(table, row):
    """Return the table with the span of a table and one more row."""
    rest = primitive(rest_of(table, row))
    lead = lead_of(rest)
    if lead == len(rest):
        return table
    found = {at: other if other[lead] == 0 else primitive(cleared(other, rest, lead)) for at, other in table.items()}
    found[lead] = rest
    return found


def kernel_row(table, free, width):
    """Return the row of the kernel that has 0 at all places that lead no row, but for one."""
    scale = 1
    for lead, row in table.items():
        scale = lcm(scale, row[lead])
    numbers = [0] * width
    numbers[free] = scale
    for lead, row in table.items():
        numbers[lead] = -row[free] * scale // row[lead]
    return primitive(numbers)
