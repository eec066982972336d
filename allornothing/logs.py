"""Which variables must be logged, so that what a function does can be undone."""

from allornothing.cases import asked_case
from allornothing.drafts import Beside, loggable, undone
from allornothing.errors import UnknownName
from allornothing.subsets import subsets
from allornothing.summaries import Analysis
from allornothing.verdicts import changed_by, matrices_of


def wrapped(program, name, variables):
    """Return a program in which the body of a function undoes these variables."""
    _, params, block = program[name]
    if not isinstance(variables, tuple):
        raise UnknownName(variables)
    known = program.variables(name)
    for value in variables:
        if not isinstance(value, str) or value not in known:
            raise UnknownName(value)
    return program.replaced((name, params, undone(variables, block)))


def all_or_nothing(program, name, case=None):
    """Return whether no run that a throw leaves changes a cell."""
    leaves = Analysis(program).leaves(name, case)
    return all([not changed_by(matrices_of(runs)) for runs in leaves.values()])


def forced(program, name, case=None):
    """Return the cells that must be logged so that a function is all-or-nothing in a case."""
    asked = asked_case(program, name, case)
    return tuple(Beside(program, name, [program[name][2]]).changed(0, asked))


def fewest(program, name):
    """Return as few variables as can be that must be logged for all cases of a function."""
    variables = loggable(program, name)
    beside = Beside(program, name, [program[name][2]])
    # In each case, the variables stand for these cells, and those must be logged.
    wanted = [(program.globals + case, beside.changed(0, case)) for case in program.cases(name)]
    enough = [chosen for chosen in subsets(len(variables)) if are_enough(chosen, wanted)]
    return tuple([variables[at] for at in enough[0]])


def are_enough(chosen, wanted):
    """Tell whether the chosen ones of several variables stand for all cells that must be logged.

    What is wanted are pairs of what the variables stand for and what must be logged.
    """
    return all([cell in [logged[at] for at in chosen] for logged, cells in wanted for cell in cells])
