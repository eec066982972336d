"""Rows of integers, and what they span."""

from math import gcd, lcm

from allornothing.errors import InvalidRow
from allornothing.integers import are_integers


def reduced(rows, width):
    """Return the reduced rows with the span of a list of rows."""
    check_rows(rows, width)
    found = []
    for row in rows:
        found = joined(found, row)
    return found


def kernel(rows, width):
    """Return rows that span those whose product with each of the rows is 0."""
    found = reduced(rows, width)
    leads = [lead_of(row) for row in found]
    return [kernel_row(found, leads, at, width) for at in range(width) if at not in leads]


def product(one, other):
    """Return the sum of the products of the numbers at the same places."""
    return sum([number * factor for number, factor in zip(one, other)])


def is_row(value, width):
    """Tell whether any value is a row of this width."""
    return isinstance(value, tuple) and len(value) == width and are_integers(value)


def check_rows(rows, width):
    for row in rows:
        if not is_row(row, width):
            raise InvalidRow(row)


def lead_of(row):
    """Return the place of the first number other than 0, or the width if there is none."""
    for at, number in enumerate(row):
        if number != 0:
            return at
    return len(row)


def primitive(row):
    """Return the multiple without a common factor whose first number other than 0 is above 0."""
    common = 0
    for number in row:
        common = gcd(common, number)
    if common == 0:
        return tuple(row)
    if row[lead_of(row)] < 0:
        common = -common
    return tuple([number // common for number in row])


def cleared(row, other, lead):
    """Return a multiple of a row, less one of the other row, that has 0 at the place."""
    if row[lead] == 0:
        return row
    factor = other[lead]
    times = row[lead]
    return primitive([factor * number - times * taken for number, taken in zip(row, other)])


def rest_of(found, row):
    """Return what is left of a row behind reduced rows: zeros if they span it."""
    rest = primitive(row)
    for other in found:
        rest = cleared(rest, other, lead_of(other))
    return rest


def joined(found, row):
    """Return the reduced rows with the span of reduced rows and one more row."""
    rest = rest_of(found, row)
    lead = lead_of(rest)
    if lead == len(rest):
        return found
    before = [cleared(other, rest, lead) for other in found if lead_of(other) < lead]
    behind = [other for other in found if lead_of(other) > lead]
    return before + [rest] + behind


def kernel_row(found, leads, free, width):
    """Return the row of the kernel that has 0 at all free places but one."""
    scale = 1
    for row, lead in zip(found, leads):
        scale = lcm(scale, row[lead])
    numbers = [0] * width
    numbers[free] = scale
    for row, lead in zip(found, leads):
        numbers[lead] = -row[free] * scale // row[lead]
    return primitive(numbers)
