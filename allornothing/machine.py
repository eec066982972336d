"""A machine that runs functions, also with injected throws."""

from allornothing.engine import Memory, Run, run_function
from allornothing.errors import InvalidChoices, InvalidEntry, InvalidInjection, LimitExceeded
from allornothing.integers import are_integers, is_integer
from allornothing.nodes import bodies_of
from allornothing.shapes import listed
from allornothing.supplies import Search, Supply, TooManyChoices


class Machine:
    """Runs the functions of a program."""

    def __init__(self, program):
        self.program = program
        self._bodies = bodies_of(program)
        self._armed = {}

    def __call__(self, name, case, entry, choices):
        """Run a function; return (kind, place, cells, result, used)."""
        check_run(self.program, name, case, entry, choices)
        return self._outcome(name, case, self._started(entry, Supply(choices)))

    def passings(self, name, case, entry, choices):
        """Return the pairs (function, place) of the risks that a run passes."""
        check_run(self.program, name, case, entry, choices)
        run = self._started(entry, Supply(choices))
        self._outcome(name, case, run)
        return run.passed

    def replayed(self, name, case, entry, choices):
        """Return the choices that lead a machine without injections through the same run."""
        check_run(self.program, name, case, entry, choices)
        supply = Supply(choices)
        self._outcome(name, case, self._started(entry, supply))
        return supply.replay

    def runs(self, name, case, entry, most, inputs=(0, 1)):
        """Yield the pairs (choices, outcome) of all runs with at most so many choices."""
        check_entry(self.program, name, case, entry)
        search = Search(most, inputs)
        is_open = True
        while is_open:
            outcome = self._outcome_within(name, case, entry, search)
            if outcome is not None:
                yield list(search.choices), outcome
            is_open = search.advance()

    def injected(self, injections):
        """Return a machine with these injections only."""
        armed = armed_by(self.program, injections)
        machine = Machine(self.program)
        machine._armed = armed
        return machine

    def injections(self):
        """Return the injections of the machine."""
        return [key + (kind,) for key, kind in self._armed.items()]

    def within(self, injections, call):
        """Return what a call returns while the machine has these injections."""
        armed = armed_by(self.program, injections)
        before = self._armed
        self._armed = armed
        try:
            return call()
        finally:
            self._armed = before

    def _started(self, entry, supply):
        return Run(self._bodies, self.program.globals, supply, self._armed, Memory(list(entry)))

    def _outcome(self, name, case, run):
        return outcome_of(run, name, case, self.program.cells(name, case))

    def _outcome_within(self, name, case, entry, search):
        """Return the outcome of the run that is tried, or None if it goes too far."""
        try:
            return self._outcome(name, case, self._started(entry, search))
        except (LimitExceeded, TooManyChoices):
            return None


def outcome_of(run, name, case, cells):
    """Run a function, from the entry that the memory of a run holds; return what the machine does."""
    kind, place, result = run_function(run, name, given_by(run.bodies[name].params, case, cells))
    return kind, place, tuple(run.memory.held[:len(cells)]), result, run.supply.used


def given_by(params, case, cells):
    """Return the addresses of the parameters of a function that is run from an entry."""
    given = []
    ahead = list(case)
    behind = len(cells)
    for _, by_place in params:
        if by_place:
            given.append(cells.index(ahead.pop(0)))
        else:
            given.append(behind)
            behind += 1
    return given


def entry_size(program, name, case):
    """Return how many values an entry has: cells and parameters by value."""
    return len(program.cells(name, case)) + len(program[name][1]) - len(program.places(name))


def check_entry(program, name, case, entry):
    """Raise the first error about a function, a case and an entry."""
    size = entry_size(program, name, case)
    if not isinstance(entry, tuple) or len(entry) != size or not are_integers(entry):
        raise InvalidEntry(entry)


def check_run(program, name, case, entry, choices):
    check_entry(program, name, case, entry)
    if not isinstance(choices, list) or not are_integers(choices):
        raise InvalidChoices(choices)


def armed_by(program, injections):
    """Return a dict from (function, place, nth) to the kind that is injected there."""
    if not isinstance(injections, list):
        raise InvalidInjection(injections)
    armed = {}
    for value in injections:
        if not is_injection(program, value) or value[:3] in armed:
            raise InvalidInjection(value)
        armed[value[:3]] = value[3]
    return armed


def is_injection(program, value):
    """Tell whether any value is an injection."""
    if not isinstance(value, tuple) or len(value) != 4:
        return False
    name, place, nth, kind = value
    if name not in program or not is_integer(place) or not is_integer(nth) or nth < 1:
        return False
    statements = listed(program[name][2])
    if place < 0 or place >= len(statements) or statements[place][0] != "risk":
        return False
    return isinstance(kind, str) and kind in statements[place][1]
