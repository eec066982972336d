"""What is asked of a tree beyond its form: its sizes and its names."""

from allornothing.errors import DuplicateName, InvalidFinally, TooLarge, UnknownName, WrongArguments
from allornothing.shapes import blocks_in, calls_in, listed, locals_of, sums_in, uses_in

MOST_GLOBALS = 4
MOST_KINDS = 3
MOST_KEEPS = 4
MOST_FUNCTIONS = 6
MOST_PARAMETERS = 3
MOST_BY_PLACE = 2
MOST_LOCALS = 3
MOST_STATEMENTS = 60
MOST_NESTING = 6
LARGEST_NUMBER = 999999999999
BARRED_FROM_FINALLY = ("while", "try", "undo", "with", "return")


def check_sizes(tree):
    """Raise TooLarge with the first word of which the tree has more than it may."""
    variables, kinds, keeps, functions = tree
    sizes = (
        ("globals", len(variables), MOST_GLOBALS),
        ("kinds", len(kinds), MOST_KINDS),
        ("keeps", len(keeps), MOST_KEEPS),
        ("functions", len(functions), MOST_FUNCTIONS),
        ("parameters", largest([len(params) for _, params, _ in functions]), MOST_PARAMETERS),
        ("parameters", largest([by_place_in(params) for _, params, _ in functions]), MOST_BY_PLACE),
        ("locals", largest([len(locals_of(variables, function)) for function in functions]), MOST_LOCALS),
        ("statements", sum([len(listed(block)) for _, _, block in functions]), MOST_STATEMENTS),
        ("nesting", largest([depth_of(block) for _, _, block in functions]), MOST_NESTING),
        ("numbers", largest([abs(number) for number in numbers_in(tree)]), LARGEST_NUMBER),
    )
    for word, size, most in sizes:
        if size > most:
            raise TooLarge(word)


def largest(numbers):
    return max(numbers, default=0)


def by_place_in(params):
    return len([name for name, by_place in params if by_place])


def depth_of(block):
    """Return how deep blocks are nested in a block, itself counted."""
    return 1 + largest([depth_of(inner) for statement in block for inner in blocks_in(statement)])


def numbers_in(tree):
    """Return all numbers and factors of a tree."""
    sums = list(tree[2])
    for _, _, block in tree[3]:
        for statement in listed(block):
            sums.extend(sums_in(statement))
    return [constant for constant, _ in sums] + [factor for _, terms in sums for _, factor in terms]


def check_names(tree):
    """Raise the first error about the names of a tree of the right form."""
    variables, kinds, keeps, functions = tree
    names = tuple([function[0] for function in functions])
    params = {function[0]: function[1] for function in functions}
    check_different(variables + kinds + names)
    for function in functions:
        check_different(variables + kinds + names + own_names(variables, function))
    for _, terms in keeps:
        check_known([name for name, _ in terms], variables)
    for function in functions:
        known = {"variable": variables + own_names(variables, function), "kind": kinds, "function": names}
        for place, statement in enumerate(listed(function[2])):
            check_statement(place, statement, known, params)


def own_names(variables, function):
    """Return the parameters and the locals of a function."""
    return tuple([name for name, _ in function[1]] + locals_of(variables, function))


def check_different(names):
    seen = set()
    for name in names:
        if name in seen:
            raise DuplicateName(name)
        seen.add(name)


def check_known(names, known):
    for name in names:
        if name not in known:
            raise UnknownName(name)


def check_statement(place, statement, known, params):
    """Check a statement; known has the names for each sort, params those of each function."""
    for sort, name in uses_in(statement):
        check_known([name], known[sort])
    for name, args in calls_in(statement):
        if not are_fitting(args, params[name]):
            raise WrongArguments(place)
    if statement[0] == "try" and is_barred(statement[3]):
        raise InvalidFinally(place)


def are_fitting(args, params):
    if len(args) != len(params):
        return False
    return all([(arg[0] == "place") == param[1] for arg, param in zip(args, params)])


def is_barred(block):
    """Tell whether something stands in a block that may not stand in a finally."""
    return any([statement[0] in BARRED_FROM_FINALLY for statement in listed(block)])
