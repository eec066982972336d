"""Programs."""

from allornothing.checks import check_names, check_sizes
from allornothing.errors import InvalidCase, InvalidTree, UnknownFunction
from allornothing.forms import is_tree
from allornothing.shapes import calls_in, listed, locals_of
from allornothing.texts import parse


class Program:
    """A program whose tree has been checked."""

    def __init__(self, tree):
        if not is_tree(tree):
            raise InvalidTree(tree)
        check_sizes(tree)
        check_names(tree)
        self.globals = tree[0]
        self._tree = tree
        self._named = named_functions(tree)

    @classmethod
    def read(cls, text):
        """Return the program with a text."""
        return cls(parse(text))

    @property
    def kinds(self):
        return self._tree[1]

    @property
    def keeps(self):
        return self._tree[2]

    @property
    def functions(self):
        return tuple([function[0] for function in self._tree[3]])

    def __len__(self):
        return len(self._named)

    def __eq__(self, other):
        return isinstance(other, Program) and self._tree == other._tree

    def __contains__(self, x):
        return isinstance(x, str) and x in self._named

    def __getitem__(self, at):
        if at not in self:
            raise UnknownFunction(at)
        return self._named[at]

    def __iter__(self):
        raise TypeError("a program is not iterated over")

    def tree(self):
        """Return the tree of the program."""
        return self._tree

    def statements(self, name):
        """Yield the pairs (place, statement) of a function."""
        for place, statement in enumerate(listed(self[name][2])):
            yield place, statement

    def variables(self, name):
        """Return the globals, the parameters and the locals of a function."""
        function = self[name]
        return list(self.globals) + [param for param, _ in function[1]] + locals_of(self.globals, function)

    def callees(self, name):
        """Return the names of the functions that a function calls."""
        found = set()
        for statement in listed(self[name][2]):
            for called, _ in calls_in(statement):
                found.add(called)
        return sorted(found)

    def reached(self, name):
        """Return the names of the functions that a function reaches."""
        found = self.callees(name)
        ahead = list(found)
        while ahead:
            new = [called for called in self.callees(ahead.pop()) if called not in found]
            found.extend(new)
            ahead.extend(new)
        return sorted(found)

    def places(self, name):
        """Return the parameters by place of a function."""
        return [param for param, by_place in self[name][1] if by_place]

    def replaced(self, function):
        """Return a program with this function in place of the one of its name, or at the end."""
        functions = self._tree[3]
        if isinstance(function, tuple) and len(function) > 0 and function[0] in self:
            functions = tuple([function if one[0] == function[0] else one for one in functions])
        else:
            functions = functions + (function,)
        return Program(self._tree[:3] + (functions,))

    def cases(self, name):
        """Return all cases of a function."""
        found = [()]
        for param in self.places(name):
            found = [case + (cell,) for case in found for cell in self._cells_for(name, param, case)]
        return found

    def _cells_for(self, name, param, case):
        """Return what a parameter may be behind a case of the earlier parameters."""
        earlier = [one for one, cell in zip(self.places(name), case) if one == cell]
        return list(self.globals) + earlier + [param]

    def cells(self, name, case):
        """Return the cells of a case."""
        if not self._is_case(name, case):
            raise InvalidCase(case)
        return self.globals + tuple([one for one, cell in zip(self.places(name), case) if one == cell])

    def _is_case(self, name, case):
        """Tell whether any value is a case of a function."""
        found = self.cases(name)
        return isinstance(case, tuple) and all([isinstance(cell, str) for cell in case]) and case in found


class Draft(Program):
    """A program that is looked into only: its tree is right, but it may be of any size."""

    def __init__(self, tree):
        self.globals = tree[0]
        self._tree = tree
        self._named = named_functions(tree)


def named_functions(tree):
    return {function[0]: function for function in tree[3]}
