"""What all runs of functions do, told by a few runs.

The runs with the fewest statements come first at each point, so what is kept
there spans all others and has the fewest statements that can do so. Of equal
ones those with fewer active calls and smaller choices come first; so what is
kept does not depend on what was asked before.
"""

from heapq import heappop, heappush

from allornothing.builders import Builder
from allornothing.cases import asked_case
from allornothing.engine import MOST_CALLS, MOST_STEPS
from allornothing.layouts import Layout
from allornothing.points import Called, Outcome, Track, settled


class Analysis:
    """Tells runs that span all runs of the functions of a program."""

    def __init__(self, program):
        self.program = program
        self._builders = {}
        self._queue = []
        self._sent = 0

    def returns(self, name, case=None):
        """Return runs (matrix, choices) that span those that return."""
        return runs_of(self._ends(name, case)[None])

    def leaves(self, name, case=None):
        """Return a dict from the throws (place, kind) that leave a function to such runs."""
        ends = self._ends(name, case)
        return {ending: runs_of(end) for ending, end in ends.items() if ending is not None and end.kept}

    def built(self, name, case=None):
        """Return a dict from functions in cases to their builders: this one, and at least all that it needs."""
        self._ends(name, case)
        return {asked: builder for asked, builder in self._builders.items()}

    def _ends(self, name, case):
        """Return a dict of the ends of a function when all that it needs is known."""
        exits = self._asked(name, asked_case(self.program, name, case))
        while self._queue:
            point, track = heappop(self._queue)[4:]
            if point.takes(track):
                self._go_on(point, track)
        return exits.ends

    def _asked(self, name, case):
        """Return the ways out of a function in a case, from now on."""
        if (name, case) not in self._builders:
            layout = Layout(self.program, name, case)
            builder = Builder(layout)
            self._builders[(name, case)] = builder
            self._send(builder.body(), Track(0, 1, (), layout.start()))
        return self._builders[(name, case)].exits

    def _send(self, point, track):
        """Let a track go on to a point that may keep it, within the limits of the machine."""
        point, track = settled(point, track)
        if track.steps <= MOST_STEPS and track.calls <= MOST_CALLS and not point.has_seen(track):
            self._sent += 1
            heappush(self._queue, (track.steps, track.calls, track.choices, self._sent, point, track))

    def _go_on(self, point, track):
        """Send what comes behind a track that a point has kept."""
        if isinstance(point, Called):
            self._call(point)
        elif isinstance(point, Outcome):
            for caller in point.callers:
                for at in range(len(caller.kept)):
                    self._send_after(caller, at, point, len(point.kept) - 1)
        else:
            for ahead, behind in point.onward(track):
                self._send(ahead, behind)

    def _call(self, point):
        """Send what comes behind the last track that a call has kept."""
        exits = self._asked(point.site.name, point.site.case)
        if len(point.kept) == 1:
            exits.callers.append(point)
        # A throw that is new here may be a new outcome of the same function.
        for outcome in list(exits.outcomes.values()):
            for number in range(len(outcome.kept)):
                self._send_after(point, len(point.kept) - 1, outcome, number)

    def _send_after(self, caller, at, outcome, number):
        ahead, behind = caller.after(at, outcome, number)
        self._send(ahead, behind)


def runs_of(end):
    return [(tuple(track.state), track.choices) for track in end.kept]
