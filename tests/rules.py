"""The rules of programs once more: the first error of any value, by another way."""

import re

KEYWORDS = ('globals kinds keep def if else while risk raise try except finally undo with swallow return').split()


def named(value):
    return isinstance(value, str) and bool(re.fullmatch('[a-z][a-z0-9]*', value)) and value not in KEYWORDS


def whole(value):
    return type(value) is int


def each(value, test, least=0):
    return type(value) is tuple and len(value) >= least and all(test(one) for one in value)


def summed(value):
    match value:
        case (constant, terms) if type(value) is tuple and whole(constant) and type(terms) is tuple:
            for term in terms:
                match term:
                    case (name, factor) if type(term) is tuple and named(name) and whole(factor) and factor:
                        pass
                    case _:
                        return False
            names = [name for name, _ in terms]
            return names == sorted(set(names))
    return False


def arg(value):
    match value:
        case ('value', expression) if type(value) is tuple:
            return summed(expression)
        case ('place', name) if type(value) is tuple:
            return named(name)
    return False


def call(value):
    return type(value) is tuple and len(value) == 2 and named(value[0]) and each(value[1], arg)


def block(value, left):
    return left > 0 and each(value, lambda one: statement(one, left))


def statement(value, left):
    if type(value) is not tuple:
        return False
    match value:
        case ('set', name, expression):
            return named(name) and summed(expression)
        case ('input', name) | ('raise', name):
            return named(name)
        case ('call', target, name, args):
            return (target is None or named(target)) and call((name, args))
        case ('if', first, second):
            return block(first, left - 1) and block(second, left - 1)
        case ('while', first):
            return block(first, left - 1)
        case ('risk', names):
            return each(names, named, 1)
        case ('try', first, handlers, last):
            return block(first, left - 1) and block(last, left - 1) and each(
                handlers, lambda one: type(one) is tuple and len(one) == 2 and each(one[0], named, 1) and block(one[1], left - 1))
        case ('undo', names, first):
            return each(names, named, 1) and block(first, left - 1)
        case ('with', enter, leave, names, first):
            return call(enter) and call(leave) and each(names, named) and block(first, left - 1)
        case ('return', expression):
            return summed(expression)
    return False


def function(value):
    if type(value) is not tuple or len(value) != 3:
        return False
    name, params, body = value
    return named(name) and block(body, 30) and each(
        params, lambda one: type(one) is tuple and len(one) == 2 and named(one[0]) and type(one[1]) is bool)


def has_form(value):
    if type(value) is not tuple or len(value) != 4:
        return False
    shared, kinds, keeps, functions = value
    return (each(shared, named) and each(kinds, named) and each(functions, function)
            and each(keeps, lambda one: summed(one) and one[0] == 0))


def blocks(one):
    match one:
        case ('if', first, second):
            return [first, second]
        case ('while', first) | ('undo', _, first) | ('with', _, _, _, first):
            return [first]
        case ('try', first, handlers, last):
            return [first, *(handled for _, handled in handlers), last]
    return []


def flat(body):
    for one in body:
        yield one
        for inner in blocks(one):
            yield from flat(inner)


def depth(body):
    return 1 + max((depth(inner) for one in body for inner in blocks(one)), default=0)


def own_locals(shared, one):
    known = list(shared) + [param for param, _ in one[1]]
    found = []
    for told in flat(one[2]):
        if told[0] in ('set', 'input', 'call') and told[1] is not None and told[1] not in known + found:
            found.append(told[1])
    return found


def numbers(value):
    """All integers in a part of a tree."""
    if type(value) is int:
        yield value
    elif type(value) is tuple:
        for one in value:
            yield from numbers(one)


def too_large(tree):
    shared, kinds, keeps, functions = tree
    tests = {
        'globals': len(shared) > 4,
        'kinds': len(kinds) > 3,
        'keeps': len(keeps) > 4,
        'functions': len(functions) > 6,
        'parameters': any(len(params) > 3 or [by for _, by in params].count(True) > 2 for _, params, _ in functions),
        'locals': any(len(own_locals(shared, one)) > 3 for one in functions),
        'statements': sum(len(list(flat(body))) for _, _, body in functions) > 60,
        'nesting': any(depth(body) > 6 for _, _, body in functions),
        'numbers': any(len(str(abs(number))) > 12 for number in numbers(tree)),
    }
    return next((word for word, fails in tests.items() if fails), None)


def repeated(names):
    return next((name for at, name in enumerate(names) if name in names[:at]), None)


def names_of(told):
    """The names of a statement, each with what it stands for."""
    def of_sum(expression):
        return [('variable', name) for name, _ in expression[1]]

    def of_call(name, args):
        found = [('function', name)]
        for word, held in args:
            found += [('variable', held)] if word == 'place' else of_sum(held)
        return found

    match told:
        case ('set', name, expression):
            return [('variable', name)] + of_sum(expression)
        case ('input', name):
            return [('variable', name)]
        case ('call', target, name, args):
            return ([] if target is None else [('variable', target)]) + of_call(name, args)
        case ('risk', names):
            return [('kind', name) for name in names]
        case ('raise', name):
            return [('kind', name)]
        case ('try', _, handlers, _):
            return [('kind', name) for names, _ in handlers for name in names]
        case ('undo', names, _):
            return [('variable', name) for name in names]
        case ('with', enter, leave, names, _):
            return of_call(*enter) + of_call(*leave) + [('kind', name) for name in names]
        case ('return', expression):
            return of_sum(expression)
    return []


def calls_of(told):
    match told:
        case ('call', _, name, args):
            return [(name, args)]
        case ('with', enter, leave, _, _):
            return [enter, leave]
    return []


def first_error(tree):
    """The name of the error and what it holds, or None."""
    if not has_form(tree):
        return 'InvalidTree', tree
    word = too_large(tree)
    if word is not None:
        return 'TooLarge', word
    shared, kinds, keeps, functions = tree
    names = [*shared, *kinds, *(one[0] for one in functions)]
    if repeated(names) is not None:
        return 'DuplicateName', repeated(names)
    for one in functions:
        again = repeated(names + [param for param, _ in one[1]] + own_locals(shared, one))
        if again is not None:
            return 'DuplicateName', again
    for keep in keeps:
        for name, _ in keep[1]:
            if name not in shared:
                return 'UnknownName', name
    params = {one[0]: [by_place for _, by_place in one[1]] for one in functions}
    for one in functions:
        known = {'kind': kinds, 'function': params,
                 'variable': [*shared, *(param for param, _ in one[1]), *own_locals(shared, one)]}
        for place, told in enumerate(flat(one[2])):
            for sort, name in names_of(told):
                if name not in known[sort]:
                    return 'UnknownName', name
            for name, args in calls_of(told):
                if params[name] != [word == 'place' for word, _ in args]:
                    return 'WrongArguments', place
            if told[0] == 'try' and {inner[0] for inner in flat(told[3])} & {'while', 'try', 'undo', 'with', 'return'}:
                return 'InvalidFinally', place
    return None
