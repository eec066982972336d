"""What a run does.

A block is left by a throw (kind, place, 0), by a return (None, None, result),
or it ends: then None stands for how it is left.
"""

from allornothing.errors import LimitExceeded

MOST_STEPS = 4000
MOST_CALLS = 20
END_OF_BODY = (None, None, 0)


class Memory:
    """The values at the addresses of a run, those of the cells first."""

    def __init__(self, held):
        self.held = held

    def put(self, address, number):
        self.held[address] = number

    def append_one(self, number):
        """Take one more address for a number, and return it."""
        self.held.append(number)
        return len(self.held) - 1

    def shrink(self, size):
        """Give up all addresses from this one."""
        del self.held[size:]


class Frame:
    """A function that runs: its name and the addresses of its variables."""

    def __init__(self, name, addresses):
        self.name = name
        self.addresses = addresses


class Run:
    """A run of functions: what it needs, and what it has done so far."""

    def __init__(self, bodies, shared, supply, armed, memory):
        self.bodies = bodies
        self.shared = shared
        self.supply = supply
        self.armed = armed
        self.memory = memory
        self.begun = 0
        self.active = 0
        self.passed = []
        self.counted = {}


def run_function(run, name, given):
    """Run a function whose parameters have the given addresses; return how it is left."""
    if run.active == MOST_CALLS:
        raise LimitExceeded("calls")
    run.active += 1
    body = run.bodies[name]
    addresses = {variable: address for address, variable in enumerate(run.shared)}
    for param, address in zip(body.params, given):
        addresses[param[0]] = address
    for variable in body.own:
        addresses[variable] = run.memory.append_one(0)
    left = run_block(run, Frame(name, addresses), body.nodes)
    run.active -= 1
    return END_OF_BODY if left is None else left


def run_block(run, frame, nodes):
    for node in nodes:
        if run.begun == MOST_STEPS:
            raise LimitExceeded("steps")
        run.begun += 1
        action = ACTIONS[node.word]
        left = action(run, frame, node)
        if left is not None:
            return left
    return None


def worth(run, frame, expression):
    """Return the value of an expression."""
    constant, terms = expression
    held = run.memory.held
    return constant + sum([factor * held[frame.addresses[name]] for name, factor in terms])


def assign(run, frame, variable, number):
    run.memory.put(frame.addresses[variable], number)


def is_throw(left):
    return left is not None and left[0] is not None


def made(run, frame, node, call):
    """Make a call of the statement; return its throw, at this place, or its return."""
    name, args = call
    size = len(run.memory.held)
    given = []
    for word, part in args:
        if word == "place":
            given.append(frame.addresses[part])
        else:
            given.append(run.memory.append_one(worth(run, frame, part)))
    left = run_function(run, name, given)
    run.memory.shrink(size)
    if is_throw(left):
        return left[0], node.place, 0
    return left


def run_set(run, frame, node):
    _, variable, expression = node.statement
    assign(run, frame, variable, worth(run, frame, expression))


def run_input(run, frame, node):
    assign(run, frame, node.statement[1], run.supply.take_number())


def run_call(run, frame, node):
    target = node.statement[1]
    left = made(run, frame, node, node.statement[2:])
    if is_throw(left):
        return left
    if target is not None:
        assign(run, frame, target, left[2])
    return None


def run_if(run, frame, node):
    first, second = node.blocks
    return run_block(run, frame, first if run.supply.take_way(2) == 1 else second)


def run_while(run, frame, node):
    left = None
    while left is None and run.supply.take_way(2) == 1:
        left = run_block(run, frame, node.blocks[0])
    return left


def run_risk(run, frame, node):
    kinds = node.statement[1]
    spot = (frame.name, node.place)
    nth = run.counted.get(spot, 0) + 1
    run.counted[spot] = nth
    run.passed.append(spot)
    forced = run.armed.get((frame.name, node.place, nth))
    if forced is not None:
        run.supply.pass_over(kinds.index(forced) + 1)
        return forced, node.place, 0
    way = run.supply.take_way(len(kinds) + 1)
    if way == 0:
        return None
    return kinds[way - 1], node.place, 0


def run_raise(run, frame, node):
    return node.statement[1], node.place, 0


def run_return(run, frame, node):
    return None, None, worth(run, frame, node.statement[1])


def run_try(run, frame, node):
    left = run_block(run, frame, node.blocks[0])
    if is_throw(left):
        left = handled(run, frame, node, left)
    last = run_block(run, frame, node.blocks[-1])
    return left if last is None else last


def handled(run, frame, node, left):
    """Run the first handler for a throw, if there is one; return how it is left."""
    for handler, block in zip(node.statement[2], node.blocks[1:]):
        if left[0] in handler[0]:
            return run_block(run, frame, block)
    return left


def run_undo(run, frame, node):
    variables = node.statement[1]
    before = [run.memory.held[frame.addresses[variable]] for variable in variables]
    left = run_block(run, frame, node.blocks[0])
    if is_throw(left):
        for variable, number in zip(variables, before):
            assign(run, frame, variable, number)
    return left


def run_with(run, frame, node):
    _, enter, leave, swallowed, _ = node.statement
    first = made(run, frame, node, enter)
    if is_throw(first):
        return first
    left = run_block(run, frame, node.blocks[0])
    last = made(run, frame, node, leave)
    if is_throw(last):
        return last
    if is_throw(left) and left[0] in swallowed:
        return None
    return left


ACTIONS = {
    "set": run_set,
    "input": run_input,
    "call": run_call,
    "if": run_if,
    "while": run_while,
    "risk": run_risk,
    "raise": run_raise,
    "try": run_try,
    "undo": run_undo,
    "with": run_with,
    "return": run_return,
}
