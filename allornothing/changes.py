"""How the verdicts and the summaries of two programs differ."""

from allornothing.machine import entry_size
from allornothing.points import numbers_of
from allornothing.rows import reduced
from allornothing.summaries import Analysis
from allornothing.verdicts import CHANGED, SOUND, change_witness, changed_cells, verdicts, witness

NEVER = "never"
RANKS = ("never", "same", "sound", "changed")


def changes(old, new):
    """Return the tuples (function, kind, before, after) for which two programs have different verdicts."""
    before, after = Analysis(old), Analysis(new)
    kinds = new.kinds + tuple([kind for kind in old.kinds if kind not in new.kinds])
    found = []
    for name in [name for name in new.functions if name in old]:
        first, last = worst_of(before, name), worst_of(after, name)
        for kind in kinds:
            if first.get(kind, NEVER) != last.get(kind, NEVER):
                found.append((name, kind, first.get(kind, NEVER), last.get(kind, NEVER)))
    return found


def worst_of(analysis, name):
    """Return a dict from the kinds of the throws that leave a function to the worst verdicts."""
    found = {}
    for (_, kind), verdict in verdicts(analysis, name).items():
        if RANKS.index(verdict) > RANKS.index(found.get(kind, NEVER)):
            found[kind] = verdict
    return found


def worse(old, new):
    """Return the changes for the worse, each with the place, entry and choices of a run that shows it."""
    analysis = Analysis(new)
    found = []
    for name, kind, before, after in changes(old, new):
        if RANKS.index(after) > RANKS.index(before):
            told = verdicts(analysis, name)
            place = min([ending[0] for ending in told if ending[1] == kind and told[ending] == after])
            entry, choices = run_for(analysis, name, place, kind, after)
            found.append((name, kind, before, after, place, entry, choices))
    return found


def run_for(analysis, name, place, kind, verdict):
    """Return (entry, choices) of a run that shows a verdict."""
    if verdict == CHANGED:
        return witness(analysis, name, place, kind)
    if verdict == SOUND:
        cells = changed_cells(analysis, name, place, kind)
        return change_witness(analysis, name, place, kind, cells[0])
    program = analysis.program
    _, choices = analysis.leaves(name)[(place, kind)][0]
    return (0,) * entry_size(program, name, tuple(program.places(name))), choices


def stale(old, new):
    """Return the functions of the new program, in ascending order, whose summary must be computed anew."""
    if old.globals != new.globals:
        return sorted(new.functions)
    before, after = Analysis(old), Analysis(new)
    found = []
    for group in groups_of(new):
        if any([name not in old or old[name] != new[name] for name in group]):
            found.extend(group)
        else:
            # What the group calls was there before, since the texts are the same.
            called = [name for name in called_by(new, group) if name in found]
            if any([summary_of(before, name) != summary_of(after, name) for name in called]):
                found.extend(group)
    return sorted(found)


def groups_of(program):
    """Return the groups of functions, those that others call first."""
    found = []
    ahead = list(program.functions)
    while ahead:
        # Of those that are left, the one that reaches the fewest, itself counted, reaches no other group.
        name = min(ahead, key=lambda one: len(group_and_below(program, one)))
        group = [one for one in group_and_below(program, name) if name in group_and_below(program, one)]
        found.append(group)
        ahead = [one for one in ahead if one not in group]
    return found


def group_and_below(program, name):
    """Return a function and all that it reaches."""
    reached = program.reached(name)
    return reached if name in reached else reached + [name]


def called_by(program, group):
    """Return the functions outside of a group that it calls."""
    return [called for name in group for called in program.callees(name) if called not in group]


def summary_of(analysis, name):
    """Return a dict from the cases of a function to its spans: that of returns (None), and those of kinds."""
    return {case: spans_of(analysis, name, case) for case in analysis.program.cases(name)}


def spans_of(analysis, name, case):
    rows = {None: [numbers_of(matrix) for matrix, _ in analysis.returns(name, case)]}
    for (_, kind), runs in analysis.leaves(name, case).items():
        rows.setdefault(kind, []).extend([numbers_of(matrix) for matrix, _ in runs])
    return {kind: reduced(found, len(found[0])) for kind, found in rows.items() if found}
