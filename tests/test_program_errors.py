"""What Program refuses, and with which error, beside tests/rules.py."""

import random
import unittest

from allornothing import errors
from allornothing.programs import Program
from allornothing.texts import parse
from rules import first_error
from samples import Sample
from test_show import Trees

FIELDS = {'InvalidTree': 'value', 'TooLarge': 'word', 'DuplicateName': 'name', 'UnknownName': 'name',
          'WrongArguments': 'place', 'InvalidFinally': 'place'}
ALL = parse('globals a b kinds k l keep a - 2*b keep b def f(&p, x) { a = 3*b - x + 4 p = ? g() u = f(&a, 1 - x) '
            'if { risk k, l } else { raise k } while { a = 0 } '
            'try { risk k } except k, l { b = u } except l { } finally { if { f(&b, 0) } else { raise l } risk k } '
            'undo a, u { with f(&u, 2), g() swallow l, k { a = a + 1 } } return -x } def g() { return 0 }')
VALUES = ('', 'a', 'f', 'k', 'if', 'A', 'set', 'value', 'place', 0, 1, -1, 7, 10 ** 12, True, False, None, 1.0, b'a', (), ('a',),
          (0, ()), ('b', 'a'), (('a', 1), ('b', 2)), [], ['a'], {}, {'a'}, object())


def told(tree):
    """The error of a tree as first_error tells it."""
    try:
        Program(tree)
    except errors.ProgramError as error:
        name = type(error).__name__
        return name, getattr(error, FIELDS[name])
    return None


def parts(value, path=()):
    """The paths of all parts of a tuple of tuples."""
    yield path, value
    if isinstance(value, tuple):
        for at, one in enumerate(value):
            yield from parts(one, path + (at,))


def put(value, path, new):
    if not path:
        return new
    at = path[0]
    return value[:at] + (put(value[at], path[1:], new),) + value[at + 1:]


class Checked(unittest.TestCase):
    def check(self, tree):
        wanted = first_error(tree)
        found = told(tree)
        if found != wanted:
            self.fail((tree, found, wanted))
        if wanted is not None and wanted[0] == 'InvalidTree':
            self.assertIs(found[1], tree)
        return wanted


class TestForm(Checked):
    def test_good(self):
        for tree in (ALL, ((), (), (), ()), parse(''), parse('globals a b c d kinds k l m keep 0 keep a')):
            self.assertIsNone(self.check(tree))
            self.assertEqual(Program(tree=tree).tree(), tree)

    def test_any_values(self):
        for value in VALUES + (ALL[:3], ALL + ((),), list(ALL), [ALL], (ALL,), 'globals a', ALL[3][0], {1: 2}, iter(ALL)):
            self.assertEqual(self.check(value)[0], 'InvalidTree')

    def test_each_part_replaced(self):
        seen = set()
        others = [part for _, part in parts(ALL)]
        chosen = random.Random(1)
        for path, part in parts(ALL):
            values = list(VALUES) + chosen.sample(others, 12)
            if isinstance(part, tuple):
                values += [list(part), part[:-1], part[1:], part + (0,), part + ('a',), part + part, part[::-1], (part,), ()]
                values += [part[:at] + part[at + 1:] for at in range(len(part))]
                values += [part[:at] + part[at:at + 1] + part[at:] for at in range(len(part))]
            if isinstance(part, str):
                values += [part + '1', part + 'A', part + ' ', ' ' + part, part.upper(), [part], part.encode(), '1' + part]
            if isinstance(part, int):
                values += [-part, not part, float(part), str(part), part + 1, (part,)]
            for value in values:
                wanted = self.check(put(ALL, path, value))
                seen.add(wanted and wanted[0])
        self.assertEqual(seen, set(FIELDS) | {None})

    def test_random_trees(self):
        seen = {}
        for start in range(3000):
            wanted = self.check(Trees(start).tree())
            seen[wanted and wanted[0]] = True
        self.assertIn('InvalidTree', seen)
        chosen = random.Random(2)
        for start in range(400):
            tree = Sample(start).tree
            self.assertIsNone(self.check(tree))
            found = list(parts(tree))
            for _ in range(25):
                path = chosen.choice(found)[0]
                new = chosen.choice((chosen.choice(found)[1], chosen.choice(VALUES)))
                wanted = self.check(put(tree, path, new))
                seen[wanted and wanted[0]] = True
        self.assertEqual(set(seen), set(FIELDS) | {None})

    def test_keeps_have_no_constant(self):
        for constant in (1, -1, 10 ** 13, True, None):
            tree = (('a',), (), ((0, (('a', 1),)), (constant, (('a', 1),))), ())
            self.assertEqual(self.check(tree)[0], 'InvalidTree')
        self.assertEqual(self.check((('a',), (), ((False, ()),), ()))[0], 'InvalidTree')
        self.assertIsNone(self.check((('a',), (), ((0, ()),), ())))

    def test_nesting(self):
        def nested(depth, word):
            body = ()
            for _ in range(depth - 1):
                one = {'while': ('while', body), 'if': ('if', (), body), 'try': ('try', (), (), body), 'undo': ('undo', ('a',), body),
                       'handler': ('try', (), ((('k',), body),), ()), 'with': ('with', ('f', ()), ('f', ()), (), body)}[word]
                body = (one,)
            return ('a',), ('k',), (), (('f', (), body),)
        for word in ('while', 'if', 'try', 'undo', 'handler', 'with'):
            for depth in (29, 30):
                self.assertEqual(self.check(nested(depth, word)), ('TooLarge', 'nesting'))
            self.assertEqual(self.check(nested(31, word))[0], 'InvalidTree')
            for depth in (32, 300, 5000, 60000):
                tree = nested(depth, word)
                with self.assertRaises(errors.InvalidTree) as caught:
                    Program(tree)
                self.assertIs(caught.exception.value, tree)
        deep = ()
        for _ in range(60000):
            deep = (deep,)
        for tree in ((deep, (), (), ()), ((), (), (deep,), ()), ((), (), (), (deep,)), ((), (), (), (('f', (), deep),)),
                     (('a',), (), (), (('f', (), (('set', 'a', (0, deep)),)),)), deep):
            with self.assertRaises(errors.InvalidTree) as caught:
                Program(tree)
            self.assertIs(caught.exception.value, tree)


SIZES = {
    'globals': lambda more: 'globals a b c d' + ' e' * more,
    'kinds': lambda more: 'kinds k l m' + ' n' * more,
    'keeps': lambda more: 'keep 0 ' * (4 + more),
    'functions': lambda more: ' '.join('def f' + str(at) + '() { }' for at in range(6 + more)),
    'parameters': lambda more: 'def pf(&p, x, &q' + ', y' * more + ') { }',
    'by place': lambda more: 'def pg(&p, &q' + ', &r' * more + ') { }',
    'locals': lambda more: 'def lf(x) { u = ? x = ? v = pf(&u, 1, &v) u = 0 w = v' + ' z = 0' * more + ' }',
    'statements': lambda more: 'def sf() { if { } ' + 'return 0 ' * 29 + '} def sg() { ' + 'return 0 ' * (30 + more) + '}',
    'nesting': lambda more: 'def nf() { ' + 'while { ' * (5 + more) + '} ' * (6 + more),
}


class TestSizes(Checked):
    def test_each(self):
        for word, text in SIZES.items():
            extra = ' def pf(&p, x, &q) { }' if word == 'locals' else ''
            self.assertIsNone(self.check(parse(text(0) + extra)))
            name = 'parameters' if word == 'by place' else word
            self.assertEqual(self.check(parse(text(1) + extra)), ('TooLarge', name))

    def test_several(self):
        tests = ('globals a b c d e kinds k l m n', 'kinds k l m n keep 0 keep 0 keep 0 keep 0 keep 0',
                 'keep 0 keep 0 keep 0 keep 0 keep 0 ' + SIZES['functions'](1),
                 SIZES['functions'](1).replace('f3()', 'f3(&p, &q, &r)'),
                 'def f(a, b, c, d) { u = 0 v = 0 w = 0 z = 0 }',
                 'def f() { u = 0 v = 0 w = 0 z = 0 ' + 'return 0 ' * 60 + '}',
                 'def f() { ' + 'return 0 ' * 60 + 'while { ' * 7 + '} ' * 8,
                 'globals a def f() { ' + 'while { ' * 7 + '} ' * 7 + 'a = 999999999999 + 1 }')
        words = ('globals', 'kinds', 'keeps', 'functions', 'parameters', 'locals', 'statements', 'nesting')
        for text, word in zip(tests, words):
            self.assertEqual(self.check(parse(text)), ('TooLarge', word))

    def test_later_function(self):
        for text in ('def f() { } def g(a, b, c, d) { }', 'def f() { } def g(&a, &b, &c) { }'):
            self.assertEqual(self.check(parse(text)), ('TooLarge', 'parameters'))
        self.assertEqual(self.check(parse('def f() { } def g() { u = 0 v = 0 w = 0 z = 0 }')), ('TooLarge', 'locals'))
        self.assertEqual(self.check(parse('def f() { } def g() { ' + 'while { ' * 6 + '} ' * 7)), ('TooLarge', 'nesting'))

    def test_locals_are_counted_in_each_function(self):
        self.assertIsNone(self.check(parse('def f() { u = 0 v = 0 w = 0 } def g() { x = 0 y = 0 z = 0 }')))
        self.assertIsNone(self.check(parse('globals a def f(x) { u = 0 v = 0 w = 0 a = 0 x = 0 u = 0 }')))
        self.assertEqual(self.check(parse('def f() { u = 0 if { v = 0 } try { } except k { w = 0 } finally { z = 0 } }')),
                         ('TooLarge', 'locals'))

    def test_before_names(self):
        self.assertEqual(self.check(parse('globals a a a a a')), ('TooLarge', 'globals'))
        self.assertEqual(self.check(parse('globals a a a a')), ('DuplicateName', 'a'))

    def test_numbers(self):
        most = 10 ** 12 - 1
        for number in (most, -most, 10 ** 12, -10 ** 12, 10 ** 59, -10 ** 59):
            for expression in ((number, ()), (0, (('a', number),)), (1, (('a', 1), ('b', number)))):
                statements = (('set', 'a', expression), ('return', expression), ('call', None, 'g', (('value', expression),)),
                              ('with', ('f', ()), ('g', (('value', expression),)), (), ()),
                              ('with', ('g', (('value', expression),)), ('f', ()), (), ()))
                for one in statements:
                    for block in ((one,), (('if', (), (one,)),), (('try', (), ((('k',), (one,)),), ()),)):
                        tree = ('a', 'b'), ('k',), (), (('f', (), block), ('g', (('x', False),), ()))
                        wanted = None if abs(number) == most else ('TooLarge', 'numbers')
                        self.assertEqual(self.check(tree), wanted)
            wanted = None if abs(number) == most else ('TooLarge', 'numbers')
            self.assertEqual(self.check((('a', 'b'), (), ((0, (('a', 1),)), (0, (('a', 1), ('b', number)))), ())), wanted)


class TestNames(Checked):
    def check_all(self, tests):
        for text, wanted in tests:
            self.assertEqual(self.check(parse(text)), wanted, text)

    def test_duplicates(self):
        self.check_all((
            ('globals a b a', ('DuplicateName', 'a')), ('globals b a kinds k a b', ('DuplicateName', 'a')),
            ('kinds k k', ('DuplicateName', 'k')), ('globals f def f() { }', ('DuplicateName', 'f')),
            ('kinds f def g() { } def f() { }', ('DuplicateName', 'f')), ('def f() { } def f() { }', ('DuplicateName', 'f')),
            ('globals a b b a', ('DuplicateName', 'b')),
            ('globals a def f(a) { }', ('DuplicateName', 'a')), ('kinds k def f(&k) { }', ('DuplicateName', 'k')),
            ('def f(f) { }', ('DuplicateName', 'f')), ('def f(g) { } def g() { }', ('DuplicateName', 'g')),
            ('def f(x, &x) { }', ('DuplicateName', 'x')), ('kinds k def f() { k = 0 }', ('DuplicateName', 'k')),
            ('def f() { g = ? f = 0 } def g() { }', ('DuplicateName', 'g')),
            ('def f() { if { f = f() } g = 0 } def g() { }', ('DuplicateName', 'f')),
            ('globals a def f(x) { x = 0 x = 1 a = 0 u = 0 u = ? } def g(x) { u = 0 }', None),
            ('def f(x) { u = 0 } def g(x, y, y) { }', ('DuplicateName', 'y')),
            ('globals a def f(a, b, b) { f = 0 }', ('DuplicateName', 'a')),
        ))

    def test_functions_come_before_parameters(self):
        self.check_all((('globals a def f(a) { } def a() { }', ('DuplicateName', 'a')),
                        ('globals a def f(a) { } def f() { }', ('DuplicateName', 'f')),
                        ('globals a keep z def f() { } def g(f) { }', ('DuplicateName', 'f'))))

    def test_keeps(self):
        self.check_all((
            ('globals a keep a keep a - b - c', ('UnknownName', 'b')), ('keep b keep a', ('UnknownName', 'b')),
            ('keep b + a', ('UnknownName', 'a')), ('kinds k keep k', ('UnknownName', 'k')), ('keep f def f() { z = y }', ('UnknownName', 'f')),
            ('keep 0', None), ('keep a - a', None),
        ))

    def test_unknown_names(self):
        head = 'globals a kinds k def f(x, &p) { u = 0 '
        bodies = (
            ('a = b', 'b'), ('a = c + a + b', 'b'), ('u = v', 'v'), ('v = v', None), ('a = k', 'k'), ('a = f', 'f'), ('return b', 'b'),
            ('return u + x + p + a', None), ('risk k, l, m', 'l'), ('risk a', 'a'), ('raise l', 'l'), ('raise k', None), ('raise f', 'f'),
            ('g()', 'g'), ('a()', 'a'), ('a = k()', 'k'), ('f(b, &c)', 'b'), ('f(a, &c)', 'c'), ('f(b)', 'b'), ('g(b)', 'g'),
            ('a = f(0, &k)', 'k'), ('undo a, b, c { z = y }', 'b'), ('undo x, p, u { }', None), ('undo k { }', 'k'),
            ('try { raise n } except k, l { } except m { }', 'l'), ('try { raise n } except k { } except k, m { }', 'm'),
            ('try { raise n } except k { a = b } finally { a = c }', 'n'), ('try { } except k { a = b } finally { a = c }', 'b'),
            ('try { } except k { } finally { a = c }', 'c'), ('if { } else { a = b }', 'b'), ('while { if { a = b } }', 'b'),
            ('with g(b), h() swallow l { }', 'g'), ('with f(b, &c), h() swallow l { }', 'b'), ('with f(a, &c), h() swallow l { }', 'c'),
            ('with f(a, &a), h(b) swallow l { }', 'h'), ('with f(a, &a), f(b, &c) swallow l { }', 'b'),
            ('with f(a, &a), f(a, &c) swallow l { }', 'c'), ('with f(a, &a), f(a, &a) swallow k, l { a = b }', 'l'),
            ('with f(a, &a), f(a, &a) swallow k { a = b }', 'b'), ('undo a { undo b { } }', 'b'),
        )
        for body, name in bodies:
            self.check_all(((head + body + ' }', None if name is None else ('UnknownName', name)),))
        self.check_all((('def f() { return u } def g() { u = 0 }', ('UnknownName', 'u')),
                        ('def f(x) { } def g() { return x }', ('UnknownName', 'x'))))

    def test_arguments(self):
        head = 'globals a kinds k def g(x, &p) { } def f() { a = 0 '
        for body, place in (
                ('g()', 1), ('g(1)', 1), ('g(1, &a, 2)', 1), ('g(&a, 1)', 1), ('g(&a, &a)', 1), ('g(1, 2)', 1), ('g(1, &a)', None),
                ('f(1)', 1), ('f()', None), ('u = g(1)', 1), ('with g(1), f() { }', 1), ('with f(), g(1) { }', 1),
                ('with f(), f() { g() }', 2), ('if { } else { while { a = 1 g(2) } }', 4), ('undo a { g() }', 2),
                ('try { } except k { g() } finally { }', 2), ('try { } finally { g() }', 2), ('if { g() } g(1)', 2)):
            self.check_all(((head + body + ' }', None if place is None else ('WrongArguments', place)),))
        self.check_all((('def f() { g(&u) } def g(x) { }', ('UnknownName', 'u')),
                        ('kinds k def f() { with g(), f() swallow l { } } def g(x) { }', ('UnknownName', 'l'))))

    def test_finally(self):
        head = 'globals a kinds k def f() { a = 0 '
        for body, place in (
                ('try { } finally { while { } }', 1), ('try { } finally { try { } finally { } }', 1), ('try { } finally { undo a { } }', 1),
                ('try { } finally { with f(), f() { } }', 1), ('try { } finally { return 0 }', 1),
                ('try { } finally { a = 1 if { } else { if { return 0 } } }', 1), ('try { } finally { if { a = 1 } f() a = ? risk k raise k }', None),
                ('try { while { return 0 } } except k { undo a { try { } finally { } } } finally { }', None),
                ('if { try { } finally { return 0 } }', 2), ('try { try { } finally { return 0 } } finally { }', 2),
                ('try { try { } finally { return 0 } } finally { return 0 }', 1),
                ('try { } except k { try { } finally { a = 1 a = 2 while { } } }', 2), ('while { undo a { try { } finally { while { } } } }', 3)):
            self.check_all(((head + body + ' }', None if place is None else ('InvalidFinally', place)),))

    def test_order(self):
        self.check_all((
            ('globals a kinds k keep b def f(x, x) { c = d }', ('DuplicateName', 'x')),
            ('globals a kinds k keep b def f(x) { a = d }', ('UnknownName', 'b')),
            ('def f() { g() f(1) } def h() { return z }', ('UnknownName', 'g')),
            ('def f() { f(1) g() } def h() { return z }', ('WrongArguments', 0)),
            ('def f() { try { f(1) } except k { } finally { return z } }', ('UnknownName', 'k')),
            ('def f() { try { f(1) } finally { return z } }', ('InvalidFinally', 0)),
            ('def f() { f(1) try { } finally { return z } }', ('WrongArguments', 0)),
            ('def f() { } def g() { f(1) } def h(h) { }', ('DuplicateName', 'h')),
            ('def g() { f(1) } def f() { return z }', ('WrongArguments', 0)),
            ('def g() { return 0 } def f() { return z } def h() { f(1) }', ('UnknownName', 'z')),
        ))
