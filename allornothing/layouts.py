"""Where values stand in the states of a function in a case.

A state is a list of rows: for 1, for each cell, parameter by value and local,
for the result, and for each value that an undo has kept, the latest last. The
product of a row with (1, entry ..) is the value.
"""

from allornothing.shapes import locals_of


class Layout:
    """A function in a case, and the slots of its variables: their indexes in states."""

    def __init__(self, program, name, case):
        self.program = program
        self.name = name
        self.cell_names = program.cells(name, case)
        function = program[name]
        by_value = [param for param, by_place in function[1] if not by_place]
        names = list(self.cell_names) + by_value + locals_of(program.globals, function)
        self.slots = {variable: at + 1 for at, variable in enumerate(names)}
        for param, cell in zip(program.places(name), case):
            self.slots[param] = self.slots[cell]
        self.columns = 1 + len(self.cell_names) + len(by_value)
        self.result = 1 + len(names)

    def start(self):
        """Return the state in which the function begins."""
        state = []
        for at in range(self.result + 1):
            state.append(tuple([1 if at == other else 0 for other in range(self.columns)]))
        return state

    def total(self, expression):
        """Return an expression as pairs (slot, factor), the constant being that of slot 0."""
        constant, terms = expression
        found = [(self.slots[variable], factor) for variable, factor in terms]
        return found if constant == 0 else [(0, constant)] + found

    def matrix(self, state, returns):
        """Return the matrix of a run that ends in a state, by a return or by a throw."""
        result = state[self.result] if returns else (0,) * self.columns
        return tuple(state[:len(self.cell_names) + 1]) + (result,)


class Site:
    """A call in a function in a case: which function it calls in which case, with what."""

    def __init__(self, layout, call):
        name, args = call
        program = layout.program
        owners = {layout.slots[variable]: variable for variable in program.globals}
        slots = {variable: layout.slots[variable] for variable in program.globals}
        case = []
        for param, arg in zip(program[name][1], args):
            if param[1]:
                slot = layout.slots[arg[1]]
                owner = owners.setdefault(slot, param[0])
                slots[param[0]] = slot
                case.append(owner)
        self.name = name
        self.case = tuple(case)
        self.cell_slots = [slots[cell] for cell in program.cells(name, self.case)]
        self.totals = [layout.total(held) for word, held in args if word == "value"]

    def entry_in(self, state):
        """Return the rows for 1 and for the entry of the called function, in a state."""
        return [state[0]] + [state[slot] for slot in self.cell_slots] + [worth(state, total) for total in self.totals]


def pairs_of(row):
    """Return the pairs (index, number) of the numbers of a row that are not 0."""
    return [(at, number) for at, number in enumerate(row) if number != 0]


def worth(rows, pairs):
    """Return the sum of multiples of rows that pairs (index, factor) tell."""
    if len(pairs) == 1 and pairs[0][1] == 1:
        return rows[pairs[0][0]]
    found = [0] * len(rows[0])
    for at, factor in pairs:
        found = [number + factor * more for number, more in zip(found, rows[at])]
    return tuple(found)


def put(state, slot, row):
    """Return a state with another row in a slot."""
    return state[:slot] + [row] + state[slot + 1:]
