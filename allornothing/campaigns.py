"""Runs with each of the throws injected that they pass by."""

from allornothing.machine import Machine
from allornothing.shapes import listed


def campaign(program, name, case, entry, choices, *, most=1):
    """Yield the pairs (injections, outcome) for the injections at passings of a run."""
    machine = Machine(program)
    given = list(choices) if isinstance(choices, list) else choices
    passed = machine.passings(name, case, entry, given)
    # What is told next stands at the end; with each list, how many passings
    # its last injection leaves behind it.
    ahead = injected_at(program, passed, [], 0)[::-1]
    while ahead:
        injections, start = ahead.pop()
        armed = machine.injected(injections)
        yield list(injections), armed(name, case, entry, given)
        if len(injections) < most:
            passed = armed.passings(name, case, entry, given)
            ahead.extend(injected_at(program, passed, injections, start)[::-1])


def injected_at(program, passed, injections, start):
    """Return the pairs (injections, start) with one more injection, from a passing on."""
    found = []
    for at in range(start, len(passed)):
        function, place = passed[at]
        nth = passed[:at + 1].count(passed[at])
        for kind in kinds_at(program, function, place):
            found.append((injections + [(function, place, nth, kind)], at + 1))
    return found


def kinds_at(program, function, place):
    """Return the different kinds of the risk at a place, in order."""
    kinds = listed(program[function][2])[place][1]
    return [kind for at, kind in enumerate(kinds) if kind not in kinds[:at]]


def exposed(program, name, case, entry, choices, *, most=1):
    """Return the pairs (place, kind) of the throws that leave some cell changed."""
    found = set()
    for _, outcome in campaign(program, name, case, entry, choices, most=most):
        kind, place, cells = outcome[:3]
        if kind is not None and cells != entry[:len(cells)]:
            found.add((place, kind))
    return sorted(found)
