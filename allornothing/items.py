"""The statements of the body of a function, and which of them keep their order."""

from allornothing.shapes import assigned_by, calls_in, listed, sums_in
from allornothing.ways import END, Ways


class Item:
    """A statement of the body of a function in a case: what it does, with its parts.

    The owners are a dict from the parameters by place to their cells.
    """

    def __init__(self, program, statement, owners, ways):
        own = listed((statement,))
        far = statements_called(program, own)
        words = [one[0] for one in own + far]
        self.can_throw = "risk" in words or "raise" in words
        self.takes_inputs = "input" in words
        self.has_return = "return" in [one[0] for one in own]
        self.never_ends = END not in ways.of_block((statement,))
        self.reads = names_of(own, far, reads_of, program.globals, owners)
        self.writes = names_of(own, far, writes_of, program.globals, owners)

    def stays(self):
        """Tell whether no other item may pass this one."""
        return self.has_return or self.never_ends

    def touches(self, other):
        """Tell whether this one writes what the other one reads or writes."""
        return any([cell in other.reads or cell in other.writes for cell in self.writes])


def items_of(program, name, case):
    """Return the items of a function in a case."""
    owners = {param: cell for param, cell in zip(program.places(name), case)}
    ways = Ways(program)
    return [Item(program, statement, owners, ways) for statement in program[name][2]]


def statements_called(program, statements):
    """Return the statements of the functions that some statements call, or that these reach."""
    names = set()
    for statement in statements:
        for called, _ in calls_in(statement):
            names.add(called)
            for reached in program.reached(called):
                names.add(reached)
    return [one for name in sorted(names) for one in listed(program[name][2])]


def names_of(own, far, names_in, shared, owners):
    """Return the cells that own statements name, and the globals that those called further on name."""
    found = [owners.get(name, name) for statement in own for name in names_in(statement)]
    return found + [name for statement in far for name in names_in(statement) if name in shared]


def both_of(statement):
    """Return the variables that a statement both reads and writes."""
    found = [held for _, args in calls_in(statement) for word, held in args if word == "place"]
    return found + list(statement[1]) if statement[0] == "undo" else found


def reads_of(statement):
    return both_of(statement) + [name for _, terms in sums_in(statement) for name, _ in terms]


def writes_of(statement):
    variable = assigned_by(statement)
    return both_of(statement) + ([] if variable is None else [variable])


def keep_order(one, other):
    """Tell whether two items keep their order."""
    if one.can_throw and other.can_throw or one.takes_inputs and other.takes_inputs:
        return True
    return one.stays() or other.stays() or one.touches(other) or other.touches(one)


def pairs_kept(items):
    """Return the pairs of numbers of items, in ascending order, that keep their order."""
    found = []
    for at, one in enumerate(items):
        found.extend([(at, other) for other in range(at + 1, len(items)) if keep_order(one, items[other])])
    return found


def may_follow(placed, item, pairs):
    """Tell whether an item may stand next behind those that are placed."""
    return item not in placed and all([one in placed for one, other in pairs if other == item])
