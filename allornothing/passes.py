"""One pass over the text of a function, with what the entries of a paper tell."""

from allornothing.builders import Builder
from allornothing.layouts import Layout
from allornothing.points import Called, End, Head, Outcome, Track, numbers_of, settled
from allornothing.rows import is_row, is_spanned, joined


class Told:
    """What an entry of a paper tells of a function in a case.

    The ends are a dict from the endings, None for a return, to the matrices of
    its pairs; the loops are one from places to what stands there for matrices.
    """

    def __init__(self, name, case, ends, loops):
        self.name = name
        self.case = case
        self.ends = ends
        self.loops = loops
        self.tables = {ending: table_of_matrices(matrices) for ending, matrices in ends.items()}
        self.outcomes = outcomes_of(ends)


def table_of_matrices(matrices):
    table = {}
    for matrix in matrices:
        table = joined(table, numbers_of(matrix))
    return table


def outcomes_of(ends):
    """Return the outcomes of a function for those that call it."""
    outcomes = {}
    for ending, matrices in ends.items():
        kind = None if ending is None else ending[1]
        outcome = outcomes.setdefault(kind, Outcome(kind, []))
        for matrix in matrices:
            outcome.takes(track_at(matrix))
    return list(outcomes.values())


def track_at(matrix):
    """Return a track whose state is a matrix; a pass asks for nothing else of a track."""
    return Track(0, 0, (), list(matrix))


def is_closed(program, told, entries):
    """Tell whether a pass over the function of an entry finds nothing beyond what it tells.

    The entries are a dict from functions in cases to what the paper tells of them.
    """
    layout = Layout(program, told.name, told.case)
    ahead = [(Builder(layout).body(), track_at(layout.start()))]
    while ahead:
        point, track = ahead.pop()
        point, track = settled(point, track)
        behind = behind_at(point, track, told, entries)
        if behind is None:
            return False
        ahead.extend(behind)
    return True


def behind_at(point, track, told, entries):
    """Return the pairs (point, track) that come next, or None for a track beyond what is told."""
    if isinstance(point, End):
        return [] if is_spanned(told.tables.get(point.ending, {}), numbers_of(track.state)) else None
    if isinstance(point, Head):
        return behind_head(point, track, told)
    if not point.takes(track):
        return []
    if isinstance(point, Called):
        return behind_call(point, entries)
    return point.onward(track)


def behind_head(head, track, told):
    """As behind_at; all matrices that are told go on when the first track comes to a while."""
    found = []
    if not head.kept:
        for matrix in told.loops.get(head.place, ()):
            if is_matrix(matrix, track.state) and head.takes(track_at(matrix)):
                found.extend(head.onward(head.kept[-1]))
    return found if is_spanned(head.table, numbers_of(track.state)) else None


def is_matrix(value, state):
    """Tell whether any value has as many rows as a state, all as wide as its rows."""
    return isinstance(value, tuple) and len(value) == len(state) and all([is_row(row, len(state[0])) for row in value])


def behind_call(point, entries):
    """As behind_at, for the last track that a call has kept."""
    called = (point.site.name, point.site.case)
    if called not in entries:
        return None
    found = []
    for outcome in entries[called].outcomes:
        found.extend([point.after(len(point.kept) - 1, outcome, number) for number in range(len(outcome.kept))])
    return found
