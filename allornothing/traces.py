"""Runs as matrices."""

from allornothing.machine import Machine, entry_size


def traced(program, name, case, choices):
    """Return (ending, matrix, used) of the run of a function with these choices."""
    machine = Machine(program)
    size = entry_size(program, name, case)
    kind, place, _, _, used = machine(name, case, (0,) * size, choices)
    # The choices decide all ways, so each value is a sum of multiples of 1 and
    # of the values of the entry: the runs from the entries of zeros with a
    # single 1 tell the factors.
    columns = [numbers_at_end(machine, name, case, (0,) * size, choices)]
    for at in range(size):
        entry = tuple([1 if other == at else 0 for other in range(size)])
        numbers = numbers_at_end(machine, name, case, entry, choices)
        columns.append([number - base for number, base in zip(numbers, columns[0])])
    matrix = tuple([tuple([column[row] for column in columns]) for row in range(len(columns[0]))])
    return None if kind is None else (place, kind), matrix, used


def numbers_at_end(machine, name, case, entry, choices):
    """Return 1, the values of the cells and the result at the end of a run."""
    _, _, cells, result, _ = machine(name, case, entry, choices)
    return [1] + list(cells) + [result]
