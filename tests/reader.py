"""A second check of papers: one pass over the tree, over lists of states with fractions."""

from fractions import Fraction

from allornothing.errors import LimitExceeded
from allornothing.traces import traced
from oracle import numbered


class Wrong(Exception):
    """What the paper tells does not hold."""


def is_number(value):
    return type(value) is int


def rest(basis, row):
    row = list(row)
    for lead, other in basis:
        if row[lead]:
            times = row[lead] / other[lead]
            row = [one - times * two for one, two in zip(row, other)]
    return row


def basis_of(rows):
    basis = []
    for row in rows:
        left = rest(basis, [Fraction(number) for number in row])
        lead = next((at for at, number in enumerate(left) if number), None)
        if lead is not None:
            basis.append((lead, left))
    return basis


def flat(state):
    return [number for row in state for number in row]


def are_within(states, others):
    basis = basis_of([flat(state) for state in others])
    return all(not any(rest(basis, [Fraction(number) for number in flat(state)])) for state in states)


def thinned(states):
    """The states that the earlier ones do not span."""
    kept = []
    for state in states:
        if not are_within([state], kept):
            kept.append(state)
    return kept


class Reader:
    """A pass over a function in a case."""

    def __init__(self, program, entries, name, case):
        self.entries = entries
        self.pairs, self.loops = entries[name, case]
        _, params, block = program[name]
        self.program = program
        cells = program.cells(name, case)
        by_value = [param for param, by_place in params if not by_place]
        own = [one for one in program.variables(name) if one not in program.globals and one not in [param for param, _ in params]]
        self.at = {one: at + 1 for at, one in enumerate(list(cells) + by_value + own)}
        for param, cell in zip(program.places(name), case):
            self.at[param] = self.at[cell]
        self.width = 1 + len(cells) + len(by_value)
        self.many = 1 + len(cells)
        self.result = 1 + len(cells) + len(by_value) + len(own)
        start = tuple(tuple(int(row == at) for at in range(self.width)) for row in range(self.result + 1))
        self.check_ends(self.block(numbered(block)[0], [start]))

    def check_ends(self, ways):
        for way, states in ways.items():
            ending = None if way in ('end', 'return') else way
            matrices = []
            for state in states:
                result = state[self.result] if way == 'return' else (0,) * self.width
                matrices.append(state[:self.many] + (result,))
            if not are_within(matrices, self.pairs.get(ending, [])):
                raise Wrong

    def total(self, state, expression):
        row = [expression[0] * number for number in state[0]]
        for name, factor in expression[1]:
            row = [one + factor * two for one, two in zip(row, state[self.at[name]])]
        return tuple(row)

    def put(self, state, name, row):
        return state[:self.at[name]] + (row,) + state[self.at[name] + 1:]

    def block(self, nodes, states):
        """The states by the ways in which a block is left: end, return, or (place, kind)."""
        ways = {'end': thinned(states)}
        for node in nodes:
            for way, more in self.statement(node, ways.pop('end')).items():
                ways[way] = thinned(ways.get(way, []) + more)
            if not ways.setdefault('end', []):
                break
        return {way: found for way, found in ways.items() if found}

    def call(self, place, states, name, args):
        if not states:
            return {}
        case, at = [], {one: self.at[one] for one in self.program.globals}
        totals = []
        for (param, by_place), (_, held) in zip(self.program[name][1], args):
            if not by_place:
                totals.append(held)
                continue
            known = [one for one, slot in at.items() if slot == self.at[held]]
            case.append(known[0] if known else param)
            at.setdefault(case[-1], self.at[held])
        cells = self.program.cells(name, tuple(case))
        if (name, tuple(case)) not in self.entries:
            raise Wrong
        ways = {}
        for ending, matrices in self.entries[name, tuple(case)][0].items():
            way = 'end' if ending is None else (place, ending[1])
            for matrix in matrices:
                for state in states:
                    entry = [state[0]] + [state[at[cell]] for cell in cells] + [self.total(state, one) for one in totals]
                    rows = [tuple(sum(number * one[col] for number, one in zip(row, entry)) for col in range(self.width)) for row in matrix]
                    new = list(state)
                    for cell, row in zip(cells, rows[1:]):
                        new[at[cell]] = row
                    ways.setdefault(way, []).append((tuple(new), rows[-1]))
        return ways

    def plain(self, place, states, call):
        return {way: [state for state, _ in told] for way, told in self.call(place, states, *call).items()}

    def then(self, ways, follow):
        """The ways of what is left so, and then goes through something more."""
        found = {}
        for way, states in ways.items():
            for last, more in follow(states).items():
                found.setdefault(way if last == 'end' else last, []).extend(more)
        return found

    def statement(self, node, states):
        place, statement, inner = node
        match statement:
            case ('set', name, expression):
                return {'end': [self.put(state, name, self.total(state, expression)) for state in states]}
            case ('input', name):
                return {'end': [self.put(state, name, tuple(choice * one for one in state[0])) for state in states for choice in (0, 1)]}
            case ('call', target, name, args):
                ways = self.call(place, states, name, args)
                return {way: [self.put(state, target, row) if way == 'end' and target else state for state, row in told]
                        for way, told in ways.items()}
            case ('if', *_):
                ways = self.block(inner[0], states)
                for way, more in self.block(inner[1], states).items():
                    ways[way] = ways.get(way, []) + more
                return ways
            case ('while', _):
                return self.loop(place, inner[0], states)
            case ('risk', kinds):
                return {'end': states, **{(place, kind): states for kind in kinds}}
            case ('raise', kind):
                return {(place, kind): states}
            case ('return', expression):
                return {'return': [state[:self.result] + (self.total(state, expression),) + state[self.result + 1:] for state in states]}
            case ('undo', names, _):
                return self.undo(names, inner[0], states)
            case ('try', _, handlers, _):
                ways = {}
                for way, more in self.block(inner[0], states).items():
                    known = [block for (kinds, _), block in zip(handlers, inner[1:]) if way not in ('end', 'return') and way[1] in kinds]
                    for last, found in (self.block(known[0], more) if known else {way: more}).items():
                        ways.setdefault(last, []).extend(found)
                return self.then(ways, lambda found: self.block(inner[-1], found))
            case ('with', enter, leave, swallowed, _):
                ways = self.plain(place, states, enter)
                begun = ways.pop('end', [])
                if not begun:
                    return ways
                through = {}
                for way, found in self.block(inner[0], begun).items():
                    for last, more in self.plain(place, found, leave).items():
                        if last == 'end':
                            last = 'end' if way not in ('end', 'return') and way[1] in swallowed else way
                        through.setdefault(last, []).extend(more)
                for way, found in through.items():
                    ways[way] = ways.get(way, []) + found
                return ways
        raise AssertionError(statement)

    def loop(self, place, nodes, states):
        if not states:
            return {}
        size = len(states[0])
        told = [one for one in self.loops.get(place, ()) if type(one) is tuple and len(one) == size
                and all(type(row) is tuple and len(row) == self.width and all(map(is_number, row)) for row in one)]
        if not are_within(states, told):
            raise Wrong
        ways = self.block(nodes, told)
        if not are_within(ways.get('end', []), told):
            raise Wrong
        return {**ways, 'end': told}

    def undo(self, names, nodes, states):
        if not states:
            return {}
        size = len(states[0])
        begun = [state + tuple(state[self.at[name]] for name in names) for state in states]
        ways = {}
        for way, found in self.block(nodes, begun).items():
            ways[way] = []
            for state in found:
                new = state[:size]
                if way not in ('end', 'return'):
                    for name, row in zip(names, state[size:]):
                        new = self.put(new, name, row)
                ways[way].append(new)
        return ways


def is_right(program, name, case, value):
    """Whether any value is a paper that is right for the function in the case."""
    entries = {}
    try:
        for one, within, pairs, loops in check_form(value):
            if one not in program or within not in program.cases(one) or (one, within) in entries:
                return False
            ends = {}
            for ending, choices in pairs:
                found, matrix, used = traced(program, one, within, list(choices))
                if found != (None if ending == (None, None) else ending) or used != len(choices):
                    return False
                ends.setdefault(found, []).append(matrix)
            entries[one, within] = ends, dict(loops)
        if (name, case) not in entries:
            return False
        for one, within in entries:
            Reader(program, entries, one, within)
    except (Wrong, LimitExceeded):
        return False
    return True


def check_form(value):
    """The value, if it has the form of a paper."""
    def check(test):
        if not test:
            raise Wrong
    check(type(value) is tuple)
    for entry in value:
        check(type(entry) is tuple and len(entry) == 4)
        name, case, pairs, loops = entry
        check(type(name) is str and type(case) is tuple and all(type(cell) is str for cell in case))
        check(type(pairs) is tuple and type(loops) is tuple)
        for pair in pairs:
            check(type(pair) is tuple and len(pair) == 2)
            check(type(pair[0]) is tuple and len(pair[0]) == 2)
            check(pair[0] == (None, None) or type(pair[0][0]) is int and type(pair[0][1]) is str)
            check(type(pair[1]) is tuple and all(type(one) is int for one in pair[1]))
        for loop in loops:
            check(type(loop) is tuple and len(loop) == 2 and type(loop[0]) is int and type(loop[1]) is tuple)
    return value
