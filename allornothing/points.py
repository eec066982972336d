"""The points that runs of a function come by, and what happens there.

A track is a run so far. A move has one way on and keeps nothing. At all other
points the tracks are kept that the earlier ones do not span; what goes on from
there is spanned by what goes on from these.
"""

from allornothing.layouts import pairs_of, put, worth
from allornothing.rows import joined


class Track:
    """A run so far: statements begun, calls active at once, choices taken, and its state."""

    def __init__(self, steps, calls, choices, state):
        self.steps = steps
        self.calls = calls
        self.choices = choices
        self.state = state


class Move:
    """A point with one way on, where a statement may begin (then begun is 1)."""

    is_move = True

    def __init__(self, begun, ahead):
        self.begun = begun
        self.ahead = ahead

    def changed(self, state):
        """Return the state behind this point."""
        return state

    def moved(self, track):
        return Track(track.steps + self.begun, track.calls, track.choices, self.changed(track.state))


class Assign(Move):
    """Assigns an expression to a slot."""

    def __init__(self, begun, ahead, slot, pairs):
        super().__init__(begun, ahead)
        self.slot = slot
        self.pairs = pairs

    def changed(self, state):
        return put(state, self.slot, worth(state, self.pairs))


class Save(Move):
    """Keeps the values of some slots."""

    def __init__(self, ahead, slots):
        super().__init__(1, ahead)
        self.slots = slots

    def changed(self, state):
        return state + [state[slot] for slot in self.slots]


class Drop(Move):
    """Gives up the values that were kept last."""

    def __init__(self, ahead, slots):
        super().__init__(0, ahead)
        self.slots = slots

    def changed(self, state):
        return state[:len(state) - len(self.slots)]


class Restore(Drop):
    """Gives the slots the values that were kept last."""

    def changed(self, state):
        size = len(state) - len(self.slots)
        found = state[:size]
        for slot, row in zip(self.slots, state[size:]):
            found = put(found, slot, row)
        return found


class Finish(Move):
    """Makes the state at the end of a function a matrix."""

    def __init__(self, ahead, layout):
        super().__init__(0, ahead)
        self.layout = layout

    def changed(self, state):
        return list(self.layout.matrix(state, self.ahead.ending is None))


def settled(point, track):
    """Return the first point that is no move, and the track when it comes there."""
    while point.is_move:
        track = point.moved(track)
        point = point.ahead
    return point, track


class Point:
    """A point where tracks are kept: those that the earlier ones do not span."""

    is_move = False

    def __init__(self):
        self.kept = []
        self.table = {}
        self.seen = {}

    def has_seen(self, track):
        """Tell whether the same state has come before, as most states do."""
        return numbers_of(track.state) in self.seen

    def takes(self, track):
        """Keep a track unless the earlier ones span it; return whether it is kept."""
        if self.has_seen(track):
            return False
        numbers = numbers_of(track.state)
        self.seen[numbers] = True
        table = joined(self.table, numbers)
        if len(table) == len(self.table):
            return False
        self.table = table
        self.kept.append(track)
        return True


def numbers_of(state):
    """Return all numbers of a state in one row."""
    return tuple([number for row in state for number in row])


class Fork(Point):
    """Takes a choice: the index of one of the ways."""

    def __init__(self, begun, ways):
        super().__init__()
        self.begun = begun
        self.ways = ways

    def onward(self, track):
        """Return the pairs (point, track) that come next."""
        found = []
        for choice, way in enumerate(self.ways):
            found.append((way, Track(track.steps + self.begun, track.calls, track.choices + (choice,), track.state)))
        return found


class Head(Fork):
    """The head of the while at a place: what comes to it and back to it ends or goes for a round."""

    def __init__(self, place, ahead):
        super().__init__(0, [ahead])
        self.place = place


class Input(Point):
    """Takes a choice and assigns it: those of 0 and 1 span all others."""

    def __init__(self, ahead, slot):
        super().__init__()
        self.ahead = ahead
        self.slot = slot

    def onward(self, track):
        found = []
        for choice in (0, 1):
            state = put(track.state, self.slot, worth(track.state, [(0, choice)]))
            found.append((self.ahead, Track(track.steps + 1, track.calls, track.choices + (choice,), state)))
        return found


class Called(Point):
    """Makes a call of the statement at a place; exits tells where its throws go on."""

    def __init__(self, begun, ahead, site, target, place, exits):
        super().__init__()
        self.begun = begun
        self.ahead = ahead
        self.site = site
        self.target = target
        self.place = place
        self.exits = exits
        self.entries = []

    def takes(self, track):
        if not super().takes(track):
            return False
        self.entries.append(self.site.entry_in(track.state))
        return True

    def after(self, at, outcome, number):
        """Return the pair (point, track) behind a track that was kept and one of an outcome of the call."""
        track = self.kept[at]
        told = outcome.kept[number]
        rows = [worth(self.entries[at], pairs) for pairs in outcome.totals[number]]
        state = list(track.state)
        for slot, row in zip(self.site.cell_slots, rows[1:]):
            state[slot] = row
        if outcome.kind is None and self.target is not None:
            state[self.target] = rows[-1]
        ahead = self.ahead if outcome.kind is None else self.exits.towards((self.place, outcome.kind))
        steps = track.steps + self.begun + told.steps
        return ahead, Track(steps, max(track.calls, 1 + told.calls), track.choices + told.choices, state)


class End(Point):
    """The end of a function, by a return (None) or by a throw (place, kind)."""

    def __init__(self, ending, outcome):
        super().__init__()
        self.ending = ending
        self.outcome = outcome

    def onward(self, track):
        return [(self.outcome, track)]


class Outcome(Point):
    """All ends of a function that are one to its callers: by a return (None), or by a kind.

    The callers are the points that call it.
    """

    def __init__(self, kind, callers):
        super().__init__()
        self.kind = kind
        self.callers = callers
        self.totals = []

    def takes(self, track):
        if not super().takes(track):
            return False
        self.totals.append([pairs_of(row) for row in track.state])
        return True
