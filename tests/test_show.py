import random
import unittest

from allornothing.printing import show
from allornothing.texts import parse

ONE = (0, (('a', 1),))


def shown(block):
    """The lines of the body of a function with this block."""
    text = show(((), (), (), (('f', (), block),)))
    lines = text.split('\n')
    assert lines[0] == 'def f() {' and lines[-2:] == ['}', ''], text
    return lines[1:-2]


class TestShow(unittest.TestCase):
    def test_example(self):
        tree = parse('globals a kinds k def f(x) { a = a - 2*x try { risk k } except k { a = ? } }')
        self.assertEqual(show(tree), 'globals a\nkinds k\ndef f(x) {\n  a = a - 2*x\n  try {\n    risk k\n'
                                     '  } except k {\n    a = ?\n  }\n}\n')

    def test_nothing(self):
        self.assertEqual(show(((), (), (), ())), '')
        self.assertEqual(show(tree=((), (), (), ())), '')

    def test_head_lines(self):
        self.assertEqual(show((('b', 'a'), (), (), ())), 'globals b a\n')
        self.assertEqual(show(((), ('k',), (), ())), 'kinds k\n')
        self.assertEqual(show(((), (), ((0, (('a', 1), ('b', -1))), (0, ())), ())), 'keep a - b\nkeep 0\n')
        self.assertEqual(show((('a',), ('l', 'k'), (ONE,), (('f', (), ()), ('g', (), ())))),
                         'globals a\nkinds l k\nkeep a\ndef f() {\n}\ndef g() {\n}\n')

    def test_params(self):
        for params, text in (((), ''), ((('x', False),), 'x'), ((('p', True),), '&p'),
                             ((('x', False), ('p', True), ('y', False)), 'x, &p, y')):
            self.assertEqual(show(((), (), (), (('f', params, ()),))), 'def f(' + text + ') {\n}\n')

    def test_plain_statements(self):
        tests = (
            (('set', 'a', (3, ())), 'a = 3'), (('set', 'a', (0, (('b', -1),))), 'a = -b'), (('input', 'a'), 'a = ?'),
            (('call', None, 'g', ()), 'g()'), (('call', 'a', 'g', ()), 'a = g()'),
            (('call', None, 'g', (('value', ONE),)), 'g(a)'), (('call', None, 'g', (('place', 'b'),)), 'g(&b)'),
            (('call', 'a', 'g', (('value', (-2, ())), ('place', 'b'), ('value', (1, (('a', 2),))))), 'a = g(-2, &b, 2*a + 1)'),
            (('risk', ('k',)), 'risk k'), (('risk', ('l', 'k', 'm')), 'risk l, k, m'), (('raise', 'k'), 'raise k'),
            (('return', (0, ())), 'return 0'), (('return', ONE), 'return a'),
        )
        for statement, line in tests:
            self.assertEqual(shown((statement,)), ['  ' + line])
        self.assertEqual(shown(tuple(statement for statement, _ in tests)), ['  ' + line for _, line in tests])

    def test_statements_with_blocks(self):
        risk = (('risk', ('k', 'l')),)
        line = '    risk k, l'
        tests = (
            (('if', (), ()), ['if {', '}']), (('if', risk, ()), ['if {', line, '}']),
            (('if', (), risk), ['if {', '} else {', line, '}']), (('if', risk, risk), ['if {', line, '} else {', line, '}']),
            (('while', ()), ['while {', '}']), (('while', risk + risk), ['while {', line, line, '}']),
            (('undo', ('a',), ()), ['undo a {', '}']), (('undo', ('b', 'a'), risk), ['undo b, a {', line, '}']),
            (('try', (), (), ()), ['try {', '} finally {', '}']), (('try', risk, (), ()), ['try {', line, '} finally {', '}']),
            (('try', (), (), risk), ['try {', '} finally {', line, '}']),
            (('try', (), ((('k',), ()),), ()), ['try {', '} except k {', '}']),
            (('try', risk, ((('k', 'l'), risk), (('m',), ())), ()),
             ['try {', line, '} except k, l {', line, '} except m {', '}']),
            (('try', (), ((('k',), ()), (('l',), risk)), risk),
             ['try {', '} except k {', '} except l {', line, '} finally {', line, '}']),
            (('with', ('f', ()), ('g', ()), (), ()), ['with f(), g() {', '}']),
            (('with', ('f', (('place', 'a'), ('value', ONE))), ('g', (('value', (4, ())),)), ('k',), risk),
             ['with f(&a, a), g(4) swallow k {', line, '}']),
            (('with', ('f', ()), ('f', ()), ('l', 'k'), ()), ['with f(), f() swallow l, k {', '}']),
        )
        for statement, lines in tests:
            wanted = [one if one == line else '  ' + one for one in lines]
            self.assertEqual(shown((statement,)), wanted)
            self.assertEqual(shown((statement, ('raise', 'k'))), wanted + ['  raise k'])
            self.assertEqual(shown((('while', (statement,)),)), ['  while {'] + ['  ' + one for one in wanted] + ['  }'])

    def test_blocks_in_all_parts(self):
        inner = (('while', (('raise', 'k'),)),)
        text = show(((), (), (), (('f', (), (('if', inner, inner), ('try', inner, ((('k',), inner),), inner))),)))
        while_lines = ['    while {', '      raise k', '    }']
        self.assertEqual(text.split('\n'), ['def f() {', '  if {'] + while_lines + ['  } else {'] + while_lines
                         + ['  }', '  try {'] + while_lines + ['  } except k {'] + while_lines
                         + ['  } finally {'] + while_lines + ['  }', '}', ''])

    def test_deep(self):
        block = ()
        for _ in range(29):
            block = (('while', block),)
        tree = ((), (), (), (('f', (), block),))
        lines = show(tree).split('\n')
        self.assertEqual(lines[1:30], ['  ' * depth + 'while {' for depth in range(1, 30)])
        self.assertEqual(lines[30:], ['  ' * depth + '}' for depth in range(29, -1, -1)] + [''])
        self.assertEqual(parse(show(tree)), tree)

    def test_sums(self):
        tests = (
            ((0, ()), '0'), ((5, ()), '5'), ((-5, ()), '-5'), ((1, ()), '1'), ((-1, ()), '-1'),
            ((0, (('a', 1),)), 'a'), ((0, (('a', -1),)), '-a'), ((0, (('a', 2),)), '2*a'), ((0, (('a', -2),)), '-2*a'),
            ((0, (('a', 10),)), '10*a'), ((0, (('a', -11),)), '-11*a'),
            ((1, (('a', 1),)), 'a + 1'), ((-1, (('a', -1),)), '-a - 1'), ((7, (('a', 2), ('b', -1))), '2*a - b + 7'),
            ((-3, (('a', -2), ('b', 1))), '-2*a + b - 3'), ((0, (('a', 1), ('b', 1), ('c', -12))), 'a + b - 12*c'),
            ((999999999999, (('x', -999999999999),)), '-999999999999*x + 999999999999'),
        )
        for tree, text in tests:
            self.assertEqual(show(((), (), (tree,), ())), 'keep ' + text + '\n')
            self.assertEqual(shown((('return', tree), ('set', 'x', tree), ('call', None, 'g', (('value', tree),)))),
                             ['  return ' + text, '  x = ' + text, '  g(' + text + ')'])
            self.assertEqual(parse('keep ' + text)[2], (tree,))


class Trees:
    """Trees of all forms, chosen by a generator with a fixed start."""

    def __init__(self, start):
        self.chosen = random.Random(start)

    def names(self, least=1):
        return tuple(self.chosen.choice(('a', 'b2', 'x', 'kk')) for _ in range(self.chosen.randint(least, 3)))

    def sum(self):
        names = sorted(set(self.names(0)))
        factors = [self.chosen.choice((1, -1, 2, -30, 999999999999)) for _ in names]
        return self.chosen.choice((0, 0, 1, -1, 25)), tuple(zip(names, factors))

    def call(self):
        args = tuple(('value', self.sum()) if self.chosen.random() < 0.5 else ('place', self.names()[0])
                     for _ in range(self.chosen.randint(0, 3)))
        return self.names()[0], args

    def block(self, depth):
        most = 3 if depth < 4 else 0
        return tuple(self.statement(depth + 1) for _ in range(self.chosen.randint(0, most)))

    def handlers(self, depth):
        return tuple((self.names(), self.block(depth)) for _ in range(self.chosen.randint(0, 2)))

    def statement(self, depth):
        word = self.chosen.choice(('set', 'input', 'call', 'if', 'while', 'risk', 'raise', 'try', 'undo', 'with', 'return'))
        if word == 'set':
            return word, self.names()[0], self.sum()
        if word in ('input', 'raise'):
            return word, self.names()[0]
        if word == 'call':
            return (word, self.chosen.choice((None, 'a'))) + self.call()
        if word == 'if':
            return word, self.block(depth), self.block(depth)
        if word == 'while':
            return word, self.block(depth)
        if word == 'risk':
            return word, self.names()
        if word == 'try':
            return word, self.block(depth), self.handlers(depth), self.block(depth)
        if word == 'undo':
            return word, self.names(), self.block(depth)
        if word == 'with':
            return word, self.call(), self.call(), self.names(0), self.block(depth)
        return word, self.sum()

    def tree(self):
        params = tuple((name, self.chosen.random() < 0.5) for name in self.names(0))
        functions = tuple((name, params, self.block(0)) for name in self.names(0))
        return self.names(0), self.names(0), tuple(self.sum() for _ in self.names(0)), functions


class TestReadBack(unittest.TestCase):
    def test_trees_are_read_back(self):
        for start in range(1500):
            tree = Trees(start).tree()
            text = show(tree)
            self.assertEqual(parse(text), tree)
            self.assertEqual(show(parse(text)), text)
            self.assertEqual(parse(' '.join(text.split())), tree)

    def test_form_of_lines(self):
        for start in range(300):
            text = show(Trees(start).tree())
            depth = 0
            for line in text.split('\n')[:-1]:
                if line.lstrip().startswith('}'):
                    depth -= 1
                self.assertEqual(len(line) - len(line.lstrip()), 2 * depth)
                self.assertEqual(line, line.rstrip())
                self.assertNotIn('  ', line.lstrip())
                if line.endswith('{'):
                    self.assertTrue(line.endswith(' {'))
                    depth += 1
            self.assertEqual(depth, 0)
            self.assertTrue(text == '' or text.endswith('\n'))
