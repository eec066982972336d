"""How blocks can be left: at their end, by a return, or by a throw of a kind.

Choices alone decide this, so each way that the text shows is that of a run. A
way is END, RETURN or the name of a kind.
"""

END = 0
RETURN = 1


class Ways:
    """The ways in which the functions of a program can be left."""

    def __init__(self, program):
        self._known = {name: [] for name in program.functions}
        many = -1
        while many != self._many():
            many = self._many()
            for name in program.functions:
                self._known[name] = self.of_block(program[name][2])

    def _many(self):
        return sum([len(ways) for ways in self._known.values()])

    def of_block(self, block):
        """Return the ways in which a block can be left."""
        found = [END]
        for statement in block:
            found = behind(found, self.of_statement(statement))
        return found

    def of_statement(self, statement):
        ways_for = WAYS[statement[0]]
        return ways_for(self, statement)

    def of_call(self, call):
        """Return the ways in which a call can be left; a return is its end."""
        return merged([], [END if way == RETURN else way for way in self._known[call[0]]])


def merged(ways, more):
    """Return the ways with more ways, each of them once."""
    found = list(ways)
    for way in more:
        if way not in found:
            found.append(way)
    return found


def behind(ways, more):
    """Return the ways of what can be left in some ways, and goes on in others at its end."""
    return merged([way for way in ways if way != END], more) if END in ways else ways


def through(ways, last):
    """Return the ways of what is left in some ways, and then through a block or call at last."""
    if not ways:
        return []
    return merged(ways if END in last else [], [way for way in last if way != END])


def ways_to_end(known, statement):
    return [END]


def ways_of_call(known, statement):
    return known.of_call(statement[2:])


def ways_of_if(known, statement):
    return merged(known.of_block(statement[1]), known.of_block(statement[2]))


def ways_of_while(known, statement):
    return merged([END], known.of_block(statement[1]))


def ways_of_risk(known, statement):
    return merged([END], statement[1])


def ways_of_raise(known, statement):
    return [statement[1]]


def ways_of_try(known, statement):
    _, block, handlers, last = statement
    found = []
    for way in known.of_block(block):
        first = [inner for kinds, inner in handlers if way in kinds][:1]
        found = merged(found, known.of_block(first[0]) if first else [way])
    return through(found, known.of_block(last))


def ways_of_undo(known, statement):
    return known.of_block(statement[2])


def ways_of_with(known, statement):
    _, enter, leave, swallowed, block = statement
    found = merged([], [END if way in swallowed else way for way in known.of_block(block)])
    return behind(known.of_call(enter), through(found, known.of_call(leave)))


def ways_of_return(known, statement):
    return [RETURN]


WAYS = {
    "set": ways_to_end,
    "input": ways_to_end,
    "call": ways_of_call,
    "if": ways_of_if,
    "while": ways_of_while,
    "risk": ways_of_risk,
    "raise": ways_of_raise,
    "try": ways_of_try,
    "undo": ways_of_undo,
    "with": ways_of_with,
    "return": ways_of_return,
}
