"""Random programs of all forms, the same for the same start."""

import random

from allornothing.errors import TooLarge
from allornothing.programs import Program

BARRED = ('while', 'try', 'undo', 'with', 'return')
WORDS = ('set', 'set', 'set', 'input', 'call', 'call', 'if', 'while', 'risk', 'risk', 'raise', 'try', 'undo', 'with',
         'return')


class Sample:
    """One random program: its tree, and what is needed to make it."""

    def __init__(self, start, functions=3, most=4, depth=3, recursive=True, words=WORDS, factors=(1, 1, -1, 2)):
        self.chosen = random.Random(start)
        self.most = most
        self.depth = depth
        self.recursive = recursive
        self.words = words
        self.factors = factors
        self.globals = ('a', 'b', 'c')[:self.chosen.randint(1, 3)]
        self.kinds = ('k', 'l', 'm')[:self.chosen.randint(1, 3)]
        self.names = ('f', 'g', 'h', 'i', 'j')[:self.chosen.randint(1, functions)]
        self.params = {name: self.some_params() for name in self.names}
        self.program = None
        while self.program is None:
            self.tree = (self.globals, self.kinds, self.keeps(), tuple(self.function(name) for name in self.names))
            try:
                self.program = Program(self.tree)
            except TooLarge as error:
                assert error.word == 'statements'

    def some_params(self):
        found = []
        for name, by_place in (('p', True), ('q', True), ('x', False)):
            if self.chosen.random() < 0.5:
                found.append((name, by_place))
        self.chosen.shuffle(found)
        return tuple(found)

    def keeps(self):
        count = self.chosen.choice((0, 0, 1, 2))
        return tuple((0, self.sum(self.globals)[1]) for _ in range(count))

    def sum(self, names):
        names = sorted(set(self.chosen.choices(names, k=self.chosen.randint(0, 2))))
        return self.chosen.choice((0, 0, 0, 1, -1, 3)), tuple((name, self.chosen.choice(self.factors)) for name in names)

    def function(self, name):
        self.within = name
        self.variables = self.globals + tuple(param for param, _ in self.params[name]) + ('u', 'v')
        block = self.block(1, ())
        self.within = None
        text = repr(block)
        assigned = repr([one for one in self.assigned(block)])
        start = tuple(('set', own, (0, ())) for own in ('u', 'v') if repr(own) in text and repr(own) not in assigned)
        return name, self.params[name], start + block

    def assigned(self, block):
        for statement in block:
            if statement[0] in ('set', 'input', 'call'):
                yield statement[1]
            for part in statement:
                if isinstance(part, tuple) and part and isinstance(part[0], tuple):
                    if part[0] and isinstance(part[0][0], str):
                        yield from self.assigned(part)
                    if part[0] and isinstance(part[0][0], tuple):
                        for _, inner in part:
                            yield from self.assigned(inner)

    def block(self, depth, barred):
        least = 1 if depth == 1 else 0
        many = self.chosen.randint(least, self.most if depth == 1 else max(1, self.most - depth))
        return tuple(self.statement(depth, barred) for _ in range(many))

    def variable(self):
        return self.chosen.choice(self.variables)

    def some_kinds(self, least=1):
        return tuple(self.chosen.choices(self.kinds, k=self.chosen.randint(least, 2)))

    def call(self):
        at = self.names.index(self.within)
        names = self.names if self.recursive else self.names[at + 1:]
        if not names:
            return None
        name = self.chosen.choice(names)
        args = tuple(('place', self.variable()) if by_place else ('value', self.sum(self.variables))
                     for _, by_place in self.params[name])
        return name, args

    def statement(self, depth, barred):
        word = self.chosen.choice(self.words)
        nests = word in ('if', 'while', 'try', 'undo', 'with')
        if word in barred or (nests and depth > self.depth):
            word = 'risk'
        if word == 'set':
            return word, self.variable(), self.sum(self.variables)
        if word == 'input':
            return word, self.variable()
        if word in ('call', 'with') and self.call() is None:
            word = 'risk'
        if word == 'call':
            return (word, self.chosen.choice((None, self.variable()))) + self.call()
        if word == 'risk':
            return word, self.some_kinds()
        if word == 'raise':
            return word, self.chosen.choice(self.kinds)
        if word == 'return':
            return word, self.sum(self.variables)
        if word == 'if':
            return word, self.block(depth + 1, barred), self.block(depth + 1, barred)
        if word == 'while':
            return word, self.block(depth + 1, barred)
        if word == 'undo':
            names = tuple(self.variable() for _ in range(self.chosen.randint(1, 2)))
            return word, names, self.block(depth + 1, barred)
        if word == 'with':
            return word, self.call(), self.call(), self.some_kinds(0), self.block(depth + 1, barred)
        handlers = tuple((self.some_kinds(), self.block(depth + 1, barred))
                         for _ in range(self.chosen.choice((0, 1, 1, 2))))
        return word, self.block(depth + 1, barred), handlers, self.block(depth + 1, BARRED)

    def case(self, name):
        return self.chosen.choice(self.program.cases(name))

    def entry(self, name, case):
        size = len(self.program.cells(name, case)) + sum(not by_place for _, by_place in self.params[name])
        return tuple(self.chosen.randint(-9, 9) for _ in range(size))

    def choices(self, most=12):
        return [self.chosen.choice((0, 0, 1, 1, 2, -1, 5)) for _ in range(self.chosen.randint(0, most))]
