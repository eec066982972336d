"""Functions as they would be if their calls of themselves undid all throws.

What such a function leaves changed must be logged, and no more: where it is
logged, its calls of itself undo all throws.
"""

from allornothing.programs import Draft
from allornothing.summaries import Analysis
from allornothing.verdicts import changed_by, matrices_of

# This begins no name of a program.
BESIDE = "+"


def undone(variables, block):
    """Return a block that undoes these variables; with none, the block itself."""
    return (("undo", variables, block),) if variables else block


def loggable(program, name):
    """Return the globals and the parameters by place of a function."""
    return program.globals + tuple(program.places(name))


class Beside:
    """A function with other blocks for its body, of which each stands beside the function.

    Calls of the function in them call one that undoes all throws.
    """

    def __init__(self, program, name, blocks):
        shared, kinds, keeps, functions = program.tree()
        _, params, block = program[name]
        known = [function for function in functions if function[0] != name]
        known.append((name, params, undone(loggable(program, name), block)))
        for at, other in enumerate(blocks):
            known.append((BESIDE + str(at), params, other))
        self._analysis = Analysis(Draft((shared, kinds, keeps, tuple(known))))

    def changed(self, at, case, start=0):
        """Return the cells that a block changes which a throw leaves, thrown at this place or behind it."""
        name = BESIDE + str(at)
        matrices = []
        for ending, runs in self._analysis.leaves(name, case).items():
            if ending[0] >= start:
                matrices.extend(matrices_of(runs))
        cells = self._analysis.program.cells(name, case)
        return [cells[row - 1] for row in changed_by(matrices)]
