"""Cases that are asked for."""

from allornothing.errors import InvalidCase


def asked_case(program, name, case):
    """Return the case that is asked for: None is the one with cells of their own."""
    if case is None:
        return tuple(program.places(name))
    # This raises InvalidCase for what is none.
    program.cells(name, case)
    return case


def is_case(program, name, value):
    """Tell whether any value is a case of a function."""
    try:
        program.cells(name, value)
    except InvalidCase:
        return False
    return True
