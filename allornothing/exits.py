"""Where runs go on that leave blocks.

An ending is None for a return, or the pair (place, kind) of a throw.
"""

from allornothing.points import Called, Drop, End, Finish, Outcome, Restore


class Exits:
    """The ways out of a block, which lead into those of the block around it."""

    def __init__(self, outer):
        self.outer = outer
        self.points = {}

    def towards(self, ending):
        """Return the point where a run goes on that leaves the block so."""
        if ending not in self.points:
            self.points[ending] = self.made(ending)
        return self.points[ending]

    def made(self, ending):
        return self.outer.towards(ending)


class BodyExits(Exits):
    """The ways out of a function: its ends so far, and the points that call it."""

    def __init__(self, layout):
        super().__init__(None)
        self.layout = layout
        self.ends = {}
        self.outcomes = {}
        self.callers = []

    def made(self, ending):
        kind = None if ending is None else ending[1]
        if kind not in self.outcomes:
            self.outcomes[kind] = Outcome(kind, self.callers)
        self.ends[ending] = End(ending, self.outcomes[kind])
        return Finish(self.ends[ending], self.layout)


class HandledExits(Exits):
    """The ways out of the block of a try, with the pairs (kinds, point) of its handlers."""

    def __init__(self, outer, handlers):
        super().__init__(outer)
        self.handlers = handlers

    def made(self, ending):
        if ending is not None:
            for kinds, point in self.handlers:
                if ending[1] in kinds:
                    return point
        return super().made(ending)


class LastExits(Exits):
    """The ways out of a try with its handlers, all of them through its finally."""

    def __init__(self, outer, builder, nodes):
        super().__init__(outer)
        self.builder = builder
        self.nodes = nodes

    def made(self, ending):
        return self.builder.block(self.nodes, self.outer.towards(ending), self.outer)


class UndoExits(Exits):
    """The ways out of an undo."""

    def __init__(self, outer, slots):
        super().__init__(outer)
        self.slots = slots

    def made(self, ending):
        ahead = self.outer.towards(ending)
        return Drop(ahead, self.slots) if ending is None else Restore(ahead, self.slots)


class WithExits(Exits):
    """The ways out of the block of a with, all of them through its second call."""

    def __init__(self, outer, node, site, ahead):
        super().__init__(outer)
        self.place = node.place
        self.swallowed = node.statement[3]
        self.site = site
        self.ahead = ahead

    def made(self, ending):
        is_swallowed = ending is not None and ending[1] in self.swallowed
        ahead = self.ahead if is_swallowed else self.outer.towards(ending)
        return Called(0, ahead, self.site, None, self.place, self.outer)
