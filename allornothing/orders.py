"""Orders of the items of functions."""

from allornothing.cases import asked_case
from allornothing.errors import InvalidOrder, TooLarge
from allornothing.integers import are_integers
from allornothing.items import items_of, may_follow, pairs_kept
from allornothing.logs import wrapped
from allornothing.plans import Plan
from allornothing.subsets import subsets

MOST_ITEMS = 8


def needs(program, name, case=None):
    """Return the pairs of numbers of items, in ascending order, that keep their order."""
    return pairs_kept(items_of(program, name, asked_case(program, name, case)))


def orders(program, name, case=None):
    """Yield all orders of the items of a function, in ascending order."""
    pairs = needs(program, name, case)
    order = completed([], len(program[name][2]), pairs)
    while order is not None:
        yield tuple(order)
        order = order_after(order, pairs)


def reordered(program, name, order, case=None):
    """Return the program in which the items of a function stand in this order."""
    pairs = needs(program, name, case)
    _, params, block = program[name]
    if not is_order(order, len(block), pairs):
        raise InvalidOrder(order)
    return program.replaced((name, params, tuple([block[item] for item in order])))


def cheapest(program, name, case=None):
    """Return (cells, order): as few cells as can be, logged with the items in this order."""
    asked = asked_case(program, name, case)
    if len(program[name][2]) > MOST_ITEMS:
        raise TooLarge("items")
    cells = program.cells(name, asked)
    plan = Plan(program, name, asked)
    # With all cells logged, there is an order.
    for chosen in subsets(len(cells)):
        logged = tuple([cells[at] for at in chosen])
        order = plan.order_within(logged)
        if order is not None:
            break
    return logged, order


def repaired(program, name, case=None):
    """Return the program in which a function is reordered and logged as cheapest tells."""
    cells, order = cheapest(program, name, case)
    return wrapped(reordered(program, name, order, case), name, cells)


def is_order(value, many, pairs):
    """Tell whether any value is an order of so many items of which these pairs keep theirs."""
    if not isinstance(value, tuple) or not are_integers(value) or sorted(value) != list(range(many)):
        return False
    return all([value.index(one) < value.index(other) for one, other in pairs])


def completed(placed, many, pairs):
    """Return the first order that begins with the items that are placed."""
    order = list(placed)
    while len(order) < many:
        order.append([item for item in range(many) if may_follow(order, item, pairs)][0])
    return order


def order_after(order, pairs):
    """Return the order that comes next, or None if there is none."""
    many = len(order)
    for at in range(many - 1, -1, -1):
        for item in range(order[at] + 1, many):
            if may_follow(order[:at], item, pairs):
                return completed(order[:at] + [item], many, pairs)
    return None
