import itertools
import unittest

from allornothing.errors import InvalidSyntax, InvalidText, TooLarge
from allornothing.texts import parse

ZERO = (0, ())


def body(text):
    """The block of a function with this text as its body."""
    return parse('def f() { ' + text + ' }')[3][0][2]


def expression(text):
    return parse('keep ' + text)[2][0]


def value(text):
    return ('value', expression(text))


class TestProgram(unittest.TestCase):
    def test_example(self):
        tree = parse('globals a kinds k def f(x) { a = a - 2*x try { risk k } except k { a = ? } }')
        self.assertEqual(tree[3][0][2][0], ('set', 'a', (0, (('a', 1), ('x', -2)))))
        self.assertEqual(tree, (('a',), ('k',), (), (('f', (('x', False),), (
            ('set', 'a', (0, (('a', 1), ('x', -2)))),
            ('try', (('risk', ('k',)),), ((('k',), (('input', 'a'),)),), ()))),)))

    def test_parts_that_may_be_left_out(self):
        texts = ('globals b a', 'kinds l k', 'keep a - b keep 2*b', 'def g() { } def f(x) { }')
        trees = (('b', 'a'), ('l', 'k'), ((0, (('a', 1), ('b', -1))), (0, (('b', 2),))),
                 (('g', (), ()), ('f', (('x', False),), ())))
        for chosen in itertools.product((False, True), repeat=4):
            text = ' '.join(text for text, there in zip(texts, chosen) if there)
            tree = tuple(tree if there else () for tree, there in zip(trees, chosen))
            self.assertEqual(parse(text), tree)
        self.assertEqual(parse(text=''), ((), (), (), ()))

    def test_blanks(self):
        tight = 'globals a b kinds k keep-a+2*b def f(&p,x){a=-p+x-3 y=g(&a,x)y=?risk k,l if{}else{}}'
        pieces = ['globals', 'a', 'b', 'kinds', 'k', 'keep', '-', 'a', '+', '2', '*', 'b', 'def', 'f', '(', '&',
                  'p', ',', 'x', ')', '{', 'a', '=', '-', 'p', '+', 'x', '-', '3', 'y', '=', 'g', '(', '&', 'a',
                  ',', 'x', ')', 'y', '=', '?', 'risk', 'k', ',', 'l', 'if', '{', '}', 'else', '{', '}', '}']
        tree = parse(tight)
        for blank in (' ', '\n', '  ', ' \n\n '):
            self.assertEqual(parse(blank.join(pieces)), tree)
            self.assertEqual(parse(blank + blank.join(pieces) + blank), tree)
        for blank in (' ', '\n', '\n  \n'):
            self.assertEqual(parse(blank), ((), (), (), ()))

    def test_names_are_not_checked(self):
        self.assertEqual(parse('globals a a kinds a keep z def a(a, a) { b(c) } def a() { }'),
                         (('a', 'a'), ('a',), ((0, (('z', 1),)),),
                          (('a', (('a', False), ('a', False)), (('call', None, 'b', (value('c'),)),)),
                           ('a', (), ()))))

    def test_params(self):
        found = parse('def f(p, &q, r2) { }')[3][0]
        self.assertEqual(found, ('f', (('p', False), ('q', True), ('r2', False)), ()))
        self.assertEqual([held for _, held in found[1]], [False, True, False])
        self.assertTrue(all(type(held) is bool for _, held in found[1]))
        self.assertEqual(parse('def f(&p) { }')[3][0][1], (('p', True),))

    def test_names_near_keywords(self):
        self.assertEqual(body('iff = 1 definal = ? withx() kinds1 = 2')[1:3],
                         (('input', 'definal'), ('call', None, 'withx', ())))


class TestStatements(unittest.TestCase):
    def test_plain(self):
        tests = {
            'a = 3': ('set', 'a', (3, ())),
            'a = b': ('set', 'a', (0, (('b', 1),))),
            'a = -b': ('set', 'a', (0, (('b', -1),))),
            'a = ?': ('input', 'a'),
            'f()': ('call', None, 'f', ()),
            'f(1, &b, -c, &d)': ('call', None, 'f', (value('1'), ('place', 'b'), value('-c'), ('place', 'd'))),
            'f(a - a)': ('call', None, 'f', (('value', ZERO),)),
            'a = f()': ('call', 'a', 'f', ()),
            'a = f(&b, 2*c + 1)': ('call', 'a', 'f', (('place', 'b'), ('value', (1, (('c', 2),))))),
            'risk k': ('risk', ('k',)),
            'risk l, k, l': ('risk', ('l', 'k', 'l')),
            'raise k': ('raise', 'k'),
            'return 0': ('return', ZERO),
            'return -x + 1': ('return', (1, (('x', -1),))),
        }
        for text, statement in tests.items():
            with self.subTest(text):
                self.assertEqual(body(text), (statement,))

    def test_with_blocks(self):
        inner = (('input', 'a'), ('raise', 'k'))
        text = '{ a = ? raise k }'
        tests = {
            'if B': ('if', inner, ()),
            'if B else {}': ('if', inner, ()),
            'if {} else B': ('if', (), inner),
            'if B else B': ('if', inner, inner),
            'while B': ('while', inner),
            'undo a B': ('undo', ('a',), inner),
            'undo b, a, b B': ('undo', ('b', 'a', 'b'), inner),
            'try B except k B': ('try', inner, ((('k',), inner),), ()),
            'try {} except k, l B except l {}': ('try', (), ((('k', 'l'), inner), (('l',), ())), ()),
            'try B finally B': ('try', inner, (), inner),
            'try {} finally {}': ('try', (), (), ()),
            'try {} except k {} finally B': ('try', (), ((('k',), ()),), inner),
            'try B except k {} except l B finally {}': ('try', inner, ((('k',), ()), (('l',), inner)), ()),
            'with f(), g() B': ('with', ('f', ()), ('g', ()), (), inner),
            'with f(1, &b), g(c) swallow k {}': (
                'with', ('f', (value('1'), ('place', 'b'))), ('g', (value('c'),)), ('k',), ()),
            'with f(), f() swallow l, k B': ('with', ('f', ()), ('f', ()), ('l', 'k'), inner),
        }
        for pattern, statement in tests.items():
            with self.subTest(pattern):
                self.assertEqual(body(pattern.replace('B', text)), (statement,))

    def test_each_behind_each_and_inside_each(self):
        plain = ['a = 3', 'a = b', 'a = 2*b', 'a = ?', 'f()', 'a = f(b)', 'risk k', 'risk k, l', 'raise k', 'return b']
        nesting = ['if {B}', 'if {} else {B}', 'while {B}', 'undo a {B}', 'undo a, b {B}', 'try {B} finally {}',
                   'try {} finally {B}', 'try {} except k {B}', 'try {} except k {} finally {B}',
                   'with f(), f() {B}', 'with f(), f() swallow k, l {B}']
        for one in plain + nesting:
            first = body(one.replace('B', ''))
            for other in plain + nesting:
                second = body(other.replace('B', ''))
                self.assertEqual(body(one.replace('B', '') + ' ' + other.replace('B', '')), first + second)
                if 'B' in one:
                    held = body(one.replace('B', other.replace('B', '')))
                    self.assertEqual(len(held), 1)
                    self.assertEqual(len(held[0]), len(first[0]))
                    self.assertIn(repr(second), repr(held))

    def test_empty_body(self):
        self.assertEqual(parse('def f(){}'), ((), (), (), (('f', (), ()),)))


class TestExpressions(unittest.TestCase):
    def test_sums(self):
        tests = {
            '0': ZERO, '-0': ZERO, '7': (7, ()), '-7': (-7, ()),
            'a': (0, (('a', 1),)), '-a': (0, (('a', -1),)),
            '1*a': (0, (('a', 1),)), '-1*a': (0, (('a', -1),)),
            '0*a': ZERO, '-0*a': ZERO, '0*a + b': (0, (('b', 1),)),
            '2*a': (0, (('a', 2),)), '- 2 * a': (0, (('a', -2),)),
            'b + a': (0, (('a', 1), ('b', 1))),
            'b - a - 3': (-3, (('a', -1), ('b', 1))),
            '3 - a + 4*b - 5 + 2': (0, (('a', -1), ('b', 4))),
            'a + a': (0, (('a', 2),)), 'a + 2*a - 4*a': (0, (('a', -1),)),
            'a - a': ZERO, 'a - a + 5': (5, ()), '-a + b + a': (0, (('b', 1),)),
            '2*a - a - a + b': (0, (('b', 1),)),
            'a - 2*a + a + a': (0, (('a', 1),)),
            'b + a10 + a2 + a + aa + a1': (0, (('a', 1), ('a1', 1), ('a10', 1), ('a2', 1), ('aa', 1), ('b', 1))),
            '999999999999': (999999999999, ()), '-999999999999*a': (0, (('a', -999999999999),)),
            '100000000000*b - 100000000000': (-100000000000, (('b', 100000000000),)),
            '999999999999 + 999999999999': (1999999999998, ()),
            '999999999999*a + 999999999999*a': (0, (('a', 1999999999998),)),
        }
        for text, tree in tests.items():
            with self.subTest(text):
                self.assertEqual(expression(text), tree)
                self.assertEqual(body('return ' + text), (('return', tree),))
                self.assertEqual(body('x = ' + text), (('set', 'x', tree),))
                self.assertEqual(body('x = g(&a, ' + text + ', b)'),
                                 (('call', 'x', 'g', (('place', 'a'), ('value', tree), value('b'))),))
                self.assertEqual(body('with g(' + text + '), g() { }')[0][1], ('g', (('value', tree),)))

    def test_all_short_sums(self):
        terms = [('a', 'a', 1), ('b', 'b', 1), ('2*a', 'a', 2), ('3', '', 3), ('0*b', 'b', 0)]
        for signs in itertools.product((1, -1), repeat=3):
            for chosen in itertools.product(terms, repeat=3):
                text = ''
                sums = {'': 0, 'a': 0, 'b': 0}
                for sign, (word, name, number) in zip(signs, chosen):
                    if text:
                        text += ' + ' if sign == 1 else ' - '
                    elif sign == -1:
                        text = '-'
                    text += word
                    sums[name] += sign * number
                wanted = (sums[''], tuple((name, sums[name]) for name in 'ab' if sums[name]))
                self.assertEqual(expression(text), wanted)

    def test_kinds_of_values(self):
        constant, terms = expression('2*b - a + 1')
        self.assertIs(type(constant), int)
        self.assertIs(type(terms), tuple)
        self.assertEqual([(type(pair), type(pair[0]), type(pair[1])) for pair in terms], [(tuple, str, int)] * 2)

    def test_only_tuples(self):
        def check(part):
            self.assertIn(type(part), (tuple, str, int, bool, type(None)))
            if type(part) is tuple:
                for inner in part:
                    check(inner)
        check(parse('globals a kinds k keep a def f(&p, x) { a = 1 a = ? x = f(&a, x) f(&p, 1) if { } else { a = ? } '
                    'while { } risk k raise k try { } except k { } finally { } undo a { } '
                    'with f(&a, 1), f(&a, 1) swallow k { } return 1 }'))

    def test_equal_calls_equal_results(self):
        text = 'globals a keep a def f(&p) { a = p }'
        self.assertEqual(parse(text), parse(text))


class TestErrors(unittest.TestCase):
    def test_no_text(self):
        class Odd:
            pass
        for held in (None, True, 0, 3, b'', b'globals a', [], ['globals a'], (), ('a',), {}, Odd(), str):
            with self.assertRaises(InvalidText) as caught:
                parse(held)
            self.assertIs(caught.exception.value, held)
            with self.assertRaises(InvalidText):
                parse(text=held)

    def large(self, text, word):
        with self.assertRaises(TooLarge) as caught:
            parse(text)
        self.assertEqual(caught.exception.word, word)

    def wrong(self, text, position):
        with self.assertRaises(InvalidSyntax) as caught:
            parse(text)
        self.assertEqual(caught.exception.position, position)
        self.assertIs(type(caught.exception.position), int)

    def test_large_numbers(self):
        heads = ('keep ', 'keep -', 'keep a + ', 'keep 1 - ', 'def f() { a = ', 'def f() { a = - ',
                 'def f() { return ', 'def f() { g(', 'def f() { g(1, ', 'def f() { a = g(&b, -',
                 'def f() { with g(1), g(a - ', 'def f() { a = b + ')
        for head in heads:
            for number in ('1000000000000', '9' * 13, '1' + '0' * 40, '7' * 5000):
                for tail in ('', ' * a', '*a } ', ' $', ' + 1', ' )', ' globals'):
                    self.large(head + number + tail, 'numbers')
            for number in ('999999999999', '100000000000', '0'):
                self.wrong(head + number, len(head + number)) if 'keep' not in head else parse(head + number)

    def test_large_numbers_where_none_may_stand(self):
        number = '1234567890123'
        for head in ('', 'globals ', 'globals a ', 'kinds ', 'kinds k ', 'keep a ', 'keep 2 ', 'keep 2 * ', 'keep a + b ',
                     'def ', 'def f ', 'def f( ', 'def f(& ', 'def f(a ', 'def f() ', 'def f() { ', 'def f() { a ',
                     'def f() { g(& ', 'def f() { g(a ', 'def f() { g(2 * ', 'def f() { if ', 'def f() { risk ',
                     'def f() { risk k ', 'def f() { raise ', 'def f() { undo ', 'def f() { with ', 'def f() { a = ? ',
                     'def f() { return 1 ', 'def f() { try ', 'def f() { try { } ', 'def f() { } '):
            self.wrong(head + number, len(head))

    def test_no_number(self):
        for piece in ('01', '00', '007', '0' * 13, '0123456789012', '1a', '0a', '1' * 13 + 'a', '12x34', '9z'):
            for head in ('keep ', 'keep -', 'keep a + ', 'def f() { a = ', 'def f() { g(1, ', 'globals '):
                self.wrong(head + piece, len(head))
                self.wrong(head + piece + ' $', len(head))

    def nested(self, depth):
        """A text with this many blocks, each inside the one before, of all kinds."""
        heads = ['if {', 'while {', 'try {', 'undo a {', 'with f(), f() {', 'if { } else {',
                 'try { } except k {', 'try { } finally {', 'try { } except k { } finally {',
                 'with f(), f() swallow k {']
        tails = ['}', '}', '} finally { }', '}', '}', '}', '}', '}', '}', '}']
        chosen = [(heads[at % 10], tails[at % 10]) for at in range(depth - 1)]
        opened = 'def f() { ' + ' '.join(head for head, _ in chosen)
        return opened, ' '.join(tail for _, tail in reversed(chosen)) + ' }'

    def test_nesting(self):
        for depth in (1, 2, 11, 12, 29, 30):
            opened, closed = self.nested(depth)
            tree = parse(opened + closed)
            self.assertEqual(len(tree[3]), 1)
            self.wrong(opened, len(opened))
        opened, closed = self.nested(30)
        self.assertEqual(parse('globals a ' + opened + ' a = 1 risk k ' + closed)[0], ('a',))
        for head in ('if {', 'while{', 'try {', 'undo a, b {', 'with f(), g() {', 'with f(), g() swallow k {'):
            for tail in ('', '}', ' } ' + closed, '$', ' a', ' if {', ' 1234567890123', ' = '):
                self.large(opened + ' ' + head + tail, 'nesting')
            self.wrong(opened + ' ' + head[:-1], len(opened + ' ' + head[:-1]))
            self.wrong(opened + ' ' + head[:-1] + ' $ {', len(opened + ' ' + head[:-1] + ' '))

    def test_nesting_of_every_depth(self):
        for depth in range(1, 31):
            for head in ('if {', 'while {', 'undo a {', 'if { } else {'):
                text = 'def f() {' + head * (depth - 1)
                parse(text + '}' * depth)
                self.wrong(text, len(text))
        for head in ('if {', 'while {', 'undo a {'):
            self.large('def f() {' + head * 30, 'nesting')

    def test_side_blocks_have_the_depth_of_their_statement(self):
        opened = 'def f() {' + 'while {' * 28
        closed = '}' * 29
        for text in ('if { } else { }', 'try { } except k { } except l { } finally { }', 'with f(), f() { }'):
            parse(opened + text + text + closed)
            for at, sign in enumerate(text):
                if sign == '{':
                    self.large(opened + text[:at + 1] + ' if {', 'nesting')

    def test_thousands_of_blocks(self):
        for head in ('if {', 'while {', 'try {', 'undo a {', 'with f(), f() {'):
            self.large('def f() {' + head * 4000 + '}' * 4001, 'nesting')
            self.large('def f() {' + head * 4000, 'nesting')
        many = 'if { } ' * 2000
        self.assertEqual(len(body(many)), 2000)

    def test_the_error_further_left(self):
        number = ' 1234567890123 '
        deep = 'def f() {' + 'if {' * 30
        self.large('keep' + number + ' $', 'numbers')
        self.wrong('keep $' + number, 5)
        self.wrong('keep a +' + ' 01 ' + number, 9)
        self.large('keep' + number + deep, 'numbers')
        self.large(deep + 'a =' + number, 'nesting')
        self.large('def f() { a =' + number + '}' + deep, 'numbers')
        self.large(deep + ' $', 'nesting')
        self.wrong('$' + deep, 0)
        self.wrong('def f() { if ' + deep, 13)
        self.wrong('globals A $', 8)
        self.wrong('globals if A', 8)
        self.wrong('A', 0)
        self.wrong(')$', 0)
        self.wrong('globals a ) 12345678901234', 10)
