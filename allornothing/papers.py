"""Papers that show verdicts, and their checks."""

from allornothing.cases import is_case
from allornothing.errors import LimitExceeded
from allornothing.forms import are_all, is_parted
from allornothing.integers import are_integers, is_integer
from allornothing.passes import Told, is_closed
from allornothing.summaries import Analysis
from allornothing.traces import traced
from allornothing.verdicts import verdict_of


def paper(program, name, case=None):
    """Return a paper that is right for a function in a case."""
    entries = []
    for (called, within), builder in Analysis(program).built(name, case).items():
        entries.append((called, within, pairs_in(builder), loops_in(builder)))
    return tuple(entries)


def is_paper(program, name, case, value):
    """Return whether any value is a paper that is right for a function in a case."""
    return told_in(program, name, case, value) is not None


def told_verdicts(program, name, case, value):
    """Return the verdicts that a paper shows, or None for a value that is no such paper."""
    told = told_in(program, name, case, value)
    if told is None:
        return None
    return {ending: verdict_of(program, matrices) for ending, matrices in told.ends.items() if ending is not None}


def pairs_in(builder):
    """Return the pairs (ending, choices) of the runs that were found."""
    found = []
    for ending, end in builder.exits.ends.items():
        found.extend([((None, None) if ending is None else ending, track.choices) for track in end.kept])
    return tuple(found)


def loops_in(builder):
    """Return the pairs (place, matrices) of the whiles that were reached."""
    heads = [builder.heads[place] for place in sorted(builder.heads)]
    return tuple([(head.place, tuple([tuple(track.state) for track in head.kept])) for head in heads if head.kept])


def told_in(program, name, case, value):
    """Return what a paper that is right tells of a function in a case, or None."""
    program.cells(name, case)
    entries = entries_in(program, value)
    if entries is None or (name, case) not in entries:
        return None
    if all([is_closed(program, told, entries) for told in entries.values()]):
        return entries[(name, case)]
    return None


def entries_in(program, value):
    """Return a dict from functions in cases to what is told of them, or None for what is no paper."""
    if not are_all(value, is_entry):
        return None
    entries = {}
    for name, case, pairs, loops in value:
        ends = ends_told(program, name, case, pairs)
        if ends is None or (name, case) in entries:
            return None
        # Of several pairs for one place the last one counts, as in a dict.
        entries[(name, case)] = Told(name, case, ends, {place: matrices for place, matrices in loops})
    return entries


def is_entry(value):
    """Tell whether any value has the form of an entry."""
    return is_parted(value, 4) and are_all(value[2], is_pair) and are_all(value[3], is_loop)


def is_pair(value):
    return is_parted(value, 2) and is_ending(value[0]) and isinstance(value[1], tuple) and are_integers(value[1])


def is_ending(value):
    if not is_parted(value, 2):
        return False
    place, kind = value
    return is_integer(place) and isinstance(kind, str) or place is None and kind is None


def is_loop(value):
    return is_parted(value, 2) and is_integer(value[0]) and isinstance(value[1], tuple)


def ends_told(program, name, case, pairs):
    """Return a dict from the endings to the matrices of the runs, or None if they end otherwise."""
    if name not in program or not is_case(program, name, case):
        return None
    ends = {}
    for (place, kind), choices in pairs:
        ending = None if kind is None else (place, kind)
        matrix = matrix_told(program, name, case, ending, choices)
        if matrix is None:
            return None
        ends.setdefault(ending, []).append(matrix)
    return ends


def matrix_told(program, name, case, ending, choices):
    """Return the matrix of a run with exactly these choices that ends so, or None."""
    try:
        found, matrix, used = traced(program, name, case, list(choices))
    except LimitExceeded:
        return None
    return matrix if found == ending and used == len(choices) else None
