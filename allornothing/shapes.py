"""The parts of statements, and what stands in them."""

SHAPES = {
    "set": ("variable", "sum"),
    "input": ("variable",),
    "call": ("target", "function", "args"),
    "if": ("block", "block"),
    "while": ("block",),
    "risk": ("kinds",),
    "raise": ("kind",),
    "try": ("block", "handlers", "block"),
    "undo": ("variables", "block"),
    "with": ("made", "made", "swallowed", "block"),
    "return": ("sum",),
}


def parts_of(statement):
    """Return the pairs (sort, part) of a statement."""
    return list(zip(SHAPES[statement[0]], statement[1:]))


def blocks_in(statement):
    """Return the blocks of a statement, in the order of the text."""
    found = []
    for sort, part in parts_of(statement):
        if sort == "block":
            found.append(part)
        elif sort == "handlers":
            found.extend([block for _, block in part])
    return found


def listed(block):
    """Return the statements of a block, and those inside them, in the order of places."""
    found = []
    for statement in block:
        found.append(statement)
        for inner in blocks_in(statement):
            found.extend(listed(inner))
    return found


def calls_in(statement):
    """Return the calls (name, args) of a statement, without those inside its blocks."""
    if statement[0] == "call":
        return [statement[2:]]
    return [part for sort, part in parts_of(statement) if sort == "made"]


def sums_in(statement):
    """Return the expressions of a statement, without those inside its blocks."""
    found = [part for sort, part in parts_of(statement) if sort == "sum"]
    for _, args in calls_in(statement):
        found.extend([held for word, held in args if word == "value"])
    return found


def assigned_by(statement):
    """Return the variable that a statement assigns to, or None."""
    if statement[0] in ("set", "input", "call"):
        return statement[1]
    return None


def locals_of(shared, function):
    """Return the locals of a function, in the order of places, beside these globals."""
    _, params, block = function
    names = list(shared) + [name for name, _ in params]
    found = []
    for statement in listed(block):
        name = assigned_by(statement)
        if name is not None and name not in names:
            names.append(name)
            found.append(name)
    return found


def uses_in(statement):
    """Return the pairs (sort, name) of all names of a statement, without its blocks.

    The sort is variable, kind or function; the names are in the order of the
    tuple of the statement.
    """
    found = []
    for sort, part in parts_of(statement):
        if sort in ("variable", "kind", "function"):
            found.append((sort, part))
        elif sort in USES:
            uses_of = USES[sort]
            found.extend(uses_of(part))
    return found


def uses_of_target(part):
    return [] if part is None else [("variable", part)]


def uses_of_sum(part):
    return [("variable", name) for name, _ in part[1]]


def uses_of_variables(part):
    return [("variable", name) for name in part]


def uses_of_kinds(part):
    return [("kind", name) for name in part]


def uses_of_handlers(part):
    return [("kind", name) for kinds, _ in part for name in kinds]


def uses_of_args(part):
    found = []
    for word, held in part:
        found.extend([("variable", held)] if word == "place" else uses_of_sum(held))
    return found


def uses_of_made(part):
    return [("function", part[0])] + uses_of_args(part[1])


USES = {
    "target": uses_of_target,
    "sum": uses_of_sum,
    "variables": uses_of_variables,
    "kinds": uses_of_kinds,
    "swallowed": uses_of_kinds,
    "handlers": uses_of_handlers,
    "args": uses_of_args,
    "made": uses_of_made,
}
