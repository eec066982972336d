"""Statements together with their places."""

from allornothing.shapes import blocks_in, locals_of


class Node:
    """A statement, its place, the nodes of its blocks, and the place behind all of them."""

    def __init__(self, statement, place):
        self.statement = statement
        self.word = statement[0]
        self.place = place
        self.blocks = []
        self.behind = place + 1
        for block in blocks_in(statement):
            nodes = nodes_of(block, self.behind)
            self.blocks.append(nodes)
            if nodes:
                self.behind = nodes[-1].behind


def nodes_of(block, place):
    """Return the nodes of the statements of a block that begins at a place."""
    nodes = []
    behind = place
    for statement in block:
        node = Node(statement, behind)
        nodes.append(node)
        behind = node.behind
    return nodes


class Body:
    """A function: its parameters, its locals and the nodes of its block."""

    def __init__(self, shared, function):
        self.params = function[1]
        self.own = locals_of(shared, function)
        self.nodes = nodes_of(function[2], 0)


def bodies_of(program):
    """Return a dict from the names of the functions to their bodies."""
    return {name: Body(program.globals, program[name]) for name in program.functions}
