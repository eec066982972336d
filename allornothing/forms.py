"""Whether any value has the form of a tree."""

from allornothing.integers import is_integer
from allornothing.shapes import SHAPES
from allornothing.texts import MOST_NESTED, is_name


def is_tree(value):
    """Tell whether any value is a tree, with keeps that have no constant."""
    if not is_parted(value, 4):
        return False
    variables, kinds, keeps, functions = value
    return are_names(variables) and are_names(kinds) and are_all(keeps, is_keep) and are_all(functions, is_function)


def is_parted(value, parts):
    """Tell whether any value is a tuple of so many parts."""
    return isinstance(value, tuple) and len(value) == parts


def are_all(value, is_one):
    """Tell whether any value is a tuple whose items all are of this form."""
    return isinstance(value, tuple) and all([is_one(one) for one in value])


def are_names(value):
    return are_all(value, is_name)


def are_some_names(value):
    return are_names(value) and len(value) > 0


def is_keep(value):
    return is_sum(value) and value[0] == 0


def is_sum(value):
    """Tell whether any value is an expression."""
    if not is_parted(value, 2) or not is_integer(value[0]) or not are_all(value[1], is_term):
        return False
    names = [name for name, _ in value[1]]
    return all([one < other for one, other in zip(names, names[1:])])


def is_term(value):
    return is_parted(value, 2) and is_name(value[0]) and is_integer(value[1]) and value[1] != 0


def is_function(value):
    return is_parted(value, 3) and is_name(value[0]) and are_all(value[1], is_param) and is_block(value[2], 1)


def is_param(value):
    return is_parted(value, 2) and is_name(value[0]) and isinstance(value[1], bool)


def is_block(value, depth):
    """Tell whether any value is a block that is nested as deep as depth tells."""
    if depth > MOST_NESTED or not isinstance(value, tuple):
        return False
    return all([is_statement(one, depth) for one in value])


def is_statement(value, depth):
    if not isinstance(value, tuple) or len(value) == 0 or not isinstance(value[0], str):
        return False
    if value[0] not in SHAPES or len(value) != len(SHAPES[value[0]]) + 1:
        return False
    return all([is_part(sort, part, depth) for sort, part in zip(SHAPES[value[0]], value[1:])])


def is_part(sort, part, depth):
    """Tell whether any value is a part of this sort, of a statement in a block so deep."""
    if sort == "block":
        return is_block(part, depth + 1)
    if sort == "handlers":
        return isinstance(part, tuple) and all([is_handler(one, depth) for one in part])
    is_form = FORMS[sort]
    return is_form(part)


def is_handler(value, depth):
    return is_parted(value, 2) and are_some_names(value[0]) and is_block(value[1], depth + 1)


def is_target(value):
    return value is None or is_name(value)


def is_arg(value):
    if not is_parted(value, 2) or not isinstance(value[0], str):
        return False
    if value[0] == "place":
        return is_name(value[1])
    return value[0] == "value" and is_sum(value[1])


def are_args(value):
    return are_all(value, is_arg)


def is_made(value):
    """Tell whether any value is one of the two calls of a with."""
    return is_parted(value, 2) and is_name(value[0]) and are_args(value[1])


FORMS = {
    "variable": is_name,
    "kind": is_name,
    "function": is_name,
    "target": is_target,
    "sum": is_sum,
    "variables": are_some_names,
    "kinds": are_some_names,
    "swallowed": are_names,
    "args": are_args,
    "made": is_made,
}
