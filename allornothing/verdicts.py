"""What is left of the cells when a throw leaves a function."""

from allornothing.cases import asked_case
from allornothing.integers import is_integer
from allornothing.rows import kernel, product

SAME = "same"
SOUND = "sound"
CHANGED = "changed"


def verdicts(analysis, name, case=None):
    """Return a dict from the throws (place, kind) that leave a function to their verdicts."""
    leaves = analysis.leaves(name, case)
    return {ending: verdict_of(analysis.program, matrices_of(runs)) for ending, runs in leaves.items()}


def keeps_sums(analysis, name, case=None):
    """Return whether all runs that return leave the keeps 0, from entries where they are 0."""
    matrices = matrices_of(analysis.returns(name, case))
    return all([broken_entry(analysis.program, matrix) is None for matrix in matrices])


def changed_cells(analysis, name, place, kind, case=None):
    """Return the cells that some run changes which is left by this throw."""
    found = changed_by(matrices_of(runs_left(analysis, name, place, kind, case)))
    return [cell for at, cell in enumerate(cells_asked(analysis, name, case)) if at + 1 in found]


def change_witness(analysis, name, place, kind, cell, case=None):
    """Return (entry, choices) of a run that is left by this throw and changes a cell, or None."""
    runs = runs_left(analysis, name, place, kind, case)
    for at, other in enumerate(cells_asked(analysis, name, case)):
        if isinstance(cell, str) and cell == other:
            return witness_at(runs, at + 1)
    return None


def witness(analysis, name, place, kind, case=None):
    """Return (entry, choices) of a run that shows the verdict changed, or None."""
    runs = runs_left(analysis, name, place, kind, case)
    matrices = matrices_of(runs)
    if verdict_of(analysis.program, matrices) != CHANGED:
        return None
    if not analysis.program.keeps:
        return witness_at(runs, changed_by(matrices)[0])
    for matrix, choices in runs:
        entry = broken_entry(analysis.program, matrix)
        if entry is not None:
            return entry, choices
    return None


def verdict_of(program, matrices):
    """Return the verdict of the runs whose matrices span those of all runs."""
    if not changed_by(matrices):
        return SAME
    if program.keeps and all([broken_entry(program, matrix) is None for matrix in matrices]):
        return SOUND
    return CHANGED


def matrices_of(runs):
    return [matrix for matrix, _ in runs]


def runs_left(analysis, name, place, kind, case):
    """Return the runs that are left by a throw, whose place and kind may be any values."""
    leaves = analysis.leaves(name, case)
    if not is_integer(place) or not isinstance(kind, str):
        return []
    return leaves.get((place, kind), [])


def cells_asked(analysis, name, case):
    program = analysis.program
    return program.cells(name, asked_case(program, name, case))


def start_row(at, width):
    """Return the row of what stands at a place of (1, entry ..) when the run begins."""
    return tuple([1 if other == at else 0 for other in range(width)])


def changed_by(matrices):
    """Return the indexes, in ascending order, of the rows of the cells that some matrix changes."""
    found = set()
    for matrix in matrices:
        for at in range(1, len(matrix) - 1):
            if matrix[at] != start_row(at, len(matrix[0])):
                found.add(at)
    return sorted(found)


def witness_at(runs, at):
    """Return (entry, choices) of a run that changes the cell of a row, or None."""
    for matrix, choices in runs:
        width = len(matrix[0])
        change = tuple([number - before for number, before in zip(matrix[at], start_row(at, width))])
        entry = entry_among([start_row(other, width) for other in range(width)], change)
        if entry is not None:
            return entry, choices
    return None


def entry_among(rows, change):
    """Return an entry, of those that the rows span, at which a change is not 0, or None.

    The first of the rows is (1, 0, ..), all others begin with 0.
    """
    for row in rows:
        if product(row, change) != 0:
            return row[1:]
    return None


def broken_entry(program, matrix):
    """Return an entry at which all keeps are 0, and one of them is not at the end, or None."""
    width = len(matrix[0])
    rows = kernel(rows_of_keeps(program, [start_row(at, width) for at in range(width)]), width)
    for change in rows_of_keeps(program, matrix):
        entry = entry_among(rows, change)
        if entry is not None:
            return entry
    return None


def rows_of_keeps(program, rows):
    """Return the rows of the keeps; the rows of the globals stand behind the one of 1."""
    found = []
    for _, terms in program.keeps:
        total = (0,) * len(rows[0])
        for variable, factor in terms:
            row = rows[program.globals.index(variable) + 1]
            total = tuple([number + factor * more for number, more in zip(total, row)])
        found.append(total)
    return found
