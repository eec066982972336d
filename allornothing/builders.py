"""The points of a function in a case, built from its statements."""

from allornothing.exits import BodyExits, HandledExits, LastExits, UndoExits, WithExits
from allornothing.layouts import Site
from allornothing.nodes import nodes_of
from allornothing.points import Assign, Called, Drop, Fork, Head, Input, Move, Save


class Builder:
    """Builds points from the end to the start: each needs those that come behind it.

    The heads are a dict from the places of the whiles to their points.
    """

    def __init__(self, layout):
        self.layout = layout
        self.exits = BodyExits(layout)
        self.heads = {}

    def body(self):
        """Return the point at which the function begins."""
        ahead = Assign(0, self.exits.towards(None), self.layout.result, [])
        block = self.layout.program[self.layout.name][2]
        return self.block(nodes_of(block, 0), ahead, self.exits)

    def block(self, nodes, ahead, exits):
        """Return the point at which a block begins that goes on ahead when it ends."""
        point = ahead
        for node in nodes[::-1]:
            build = BUILDS[node.word]
            point = build(self, node, point, exits)
        return point

    def called(self, begun, ahead, call, target, place, exits):
        return Called(begun, ahead, Site(self.layout, call), target, place, exits)


def build_set(builder, node, ahead, exits):
    layout = builder.layout
    return Assign(1, ahead, layout.slots[node.statement[1]], layout.total(node.statement[2]))


def build_input(builder, node, ahead, exits):
    return Input(ahead, builder.layout.slots[node.statement[1]])


def build_call(builder, node, ahead, exits):
    variable = node.statement[1]
    target = None if variable is None else builder.layout.slots[variable]
    return builder.called(1, ahead, node.statement[2:], target, node.place, exits)


def build_if(builder, node, ahead, exits):
    first, second = node.blocks
    return Fork(1, [builder.block(second, ahead, exits), builder.block(first, ahead, exits)])


def build_while(builder, node, ahead, exits):
    head = Head(node.place, ahead)
    head.ways.append(builder.block(node.blocks[0], head, exits))
    builder.heads[node.place] = head
    return Move(1, head)


def build_risk(builder, node, ahead, exits):
    return Fork(1, [ahead] + [exits.towards((node.place, kind)) for kind in node.statement[1]])


def build_raise(builder, node, ahead, exits):
    return Move(1, exits.towards((node.place, node.statement[1])))


def build_return(builder, node, ahead, exits):
    layout = builder.layout
    return Assign(1, exits.towards(None), layout.result, layout.total(node.statement[1]))


def build_try(builder, node, ahead, exits):
    last = LastExits(exits, builder, node.blocks[-1])
    behind = builder.block(node.blocks[-1], ahead, exits)
    handlers = []
    for handler, nodes in zip(node.statement[2], node.blocks[1:]):
        handlers.append((handler[0], builder.block(nodes, behind, last)))
    return Move(1, builder.block(node.blocks[0], behind, HandledExits(last, handlers)))


def build_undo(builder, node, ahead, exits):
    slots = [builder.layout.slots[variable] for variable in node.statement[1]]
    return Save(builder.block(node.blocks[0], Drop(ahead, slots), UndoExits(exits, slots)), slots)


def build_with(builder, node, ahead, exits):
    _, enter, leave, _, _ = node.statement
    inner = WithExits(exits, node, Site(builder.layout, leave), ahead)
    behind = builder.called(0, ahead, leave, None, node.place, exits)
    return builder.called(1, builder.block(node.blocks[0], behind, inner), enter, None, node.place, exits)


BUILDS = {
    "set": build_set,
    "input": build_input,
    "call": build_call,
    "if": build_if,
    "while": build_while,
    "risk": build_risk,
    "raise": build_raise,
    "try": build_try,
    "undo": build_undo,
    "with": build_with,
    "return": build_return,
}
