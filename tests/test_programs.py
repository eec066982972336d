"""What a program tells of itself."""

import unittest

from allornothing.errors import (DuplicateName, InvalidCase, InvalidSyntax, InvalidText, InvalidTree, TooLarge,
                                 UnknownFunction, UnknownName, WrongArguments)
from allornothing.programs import Program
from allornothing.texts import parse
from rules import flat
from samples import Sample

TEXT = ('globals b a kinds k l keep a - b def f(&p, x, &q) { y = 0 g() if { z = f(&a, 1, &y) } while { h(2) } } '
        'def g() { try { risk k } except k { h(1) } finally { g() } } def h(x) { with i(), h(1) { } } def i() { a = 1 } def j() { }')
NO_NAMES = (None, True, False, 0, 1, '', 'F', 'a', 'k', 'x', ' f', ('f',), ['f'], {'f'}, {'f': 1}, b'f', 1.5, [], (), object())


class TestQuestions(unittest.TestCase):
    def setUp(self):
        self.program = Program.read(TEXT)

    def test_example(self):
        program = Program.read('globals a def f(&p, &q, x) { p = q + x y = p f(&q, &a, 1) }')
        self.assertEqual(program.cases('f'), [('a', 'a'), ('a', 'q'), ('p', 'a'), ('p', 'p'), ('p', 'q')])
        self.assertEqual(program.cells('f', ('p', 'a')), ('a', 'p'))
        self.assertEqual(program.variables('f'), ['a', 'p', 'q', 'x', 'y'])
        self.assertEqual(program.reached('f'), ['f'])

    def test_parts(self):
        program = self.program
        self.assertEqual(program.globals, ('b', 'a'))
        self.assertEqual(program.kinds, ('k', 'l'))
        self.assertEqual(program.keeps, ((0, (('a', 1), ('b', -1))),))
        self.assertEqual(program.functions, ('f', 'g', 'h', 'i', 'j'))
        self.assertEqual(program.tree(), parse(TEXT))
        self.assertIn('globals', vars(program))
        for name in ('kinds', 'keeps', 'functions'):
            self.assertIsInstance(vars(Program)[name], property)
        empty = Program(((), (), (), ()))
        self.assertEqual((empty.globals, empty.kinds, empty.keeps, empty.functions, empty.tree()), ((), (), (), (), ((), (), (), ())))

    def test_methods_stand_in_the_class(self):
        for name in ('tree', 'statements', 'variables', 'callees', 'reached', 'places', 'replaced', 'read', 'cases', 'cells',
                     '__getitem__', '__contains__', '__len__', '__eq__'):
            self.assertIn(name, vars(Program))

    def test_functions(self):
        for function in parse(TEXT)[3]:
            self.assertEqual(self.program[function[0]], function)
            self.assertIs(function[0] in self.program, True)
        self.assertEqual(len(self.program), 5)
        self.assertEqual(len(Program(((), (), (), ()))), 0)
        for value in NO_NAMES:
            self.assertIs(value in self.program, False)

    def test_unknown_functions(self):
        program = self.program
        calls = (program.__getitem__, lambda name: list(program.statements(name)), program.variables, program.callees,
                 program.reached, program.places, program.cases, lambda name: program.cells(name, ()),
                 lambda name: program.cells(name, None))
        for name in NO_NAMES:
            for call in calls:
                with self.assertRaises(UnknownFunction) as caught:
                    call(name)
                self.assertIs(caught.exception.name, name)

    def test_not_iterated(self):
        with self.assertRaises(TypeError):
            list(self.program)

    def test_equal(self):
        self.assertTrue(self.program == Program.read(TEXT))
        self.assertFalse(self.program != Program.read(TEXT))
        self.assertFalse(self.program == Program.read(TEXT.replace('a = 1', 'a = 2')))
        self.assertFalse(self.program == Program.read(TEXT.replace('globals b a', 'globals a b')))
        for value in (parse(TEXT), TEXT, None, 0, True, (), object()):
            self.assertFalse(self.program == value)
            self.assertTrue(self.program != value)

    def test_statements(self):
        for start in range(60):
            sample = Sample(start)
            for name, _, block in sample.tree[3]:
                self.assertEqual(list(sample.program.statements(name)), list(enumerate(flat(block))))
        program = Program.read('globals a kinds k def f() { if { a = 0 } else { a = 1 } try { a = 2 } except k { a = 3 } '
                               'except k { a = 4 } finally { a = 5 } undo a { a = 6 } while { a = 7 } with f(), f() { a = 8 } a = 9 }')
        told = list(program.statements('f'))
        self.assertEqual([place for place, _ in told], list(range(15)))
        self.assertEqual([one[2][0] for _, one in told if one[0] == 'set'], list(range(10)))
        self.assertEqual(list(program.statements(name='f')), told)

    def test_variables(self):
        self.assertEqual(self.program.variables('f'), ['b', 'a', 'p', 'x', 'q', 'y', 'z'])
        self.assertEqual(self.program.variables('h'), ['b', 'a', 'x'])
        self.assertEqual(self.program.variables('j'), ['b', 'a'])
        program = Program.read('globals a kinds k def f(x) { if { w = 0 x = 0 } else { v = ? } try { a = 1 } except k { w = 1 } '
                               'finally { u = f(0) } }')
        self.assertEqual(program.variables(name='f'), ['a', 'x', 'w', 'v', 'u'])

    def test_callees_and_reached(self):
        callees = {'f': ['f', 'g', 'h'], 'g': ['g', 'h'], 'h': ['h', 'i'], 'i': [], 'j': []}
        reached = {'f': ['f', 'g', 'h', 'i'], 'g': ['g', 'h', 'i'], 'h': ['h', 'i'], 'i': [], 'j': []}
        for name in callees:
            self.assertEqual(self.program.callees(name), callees[name])
            self.assertEqual(self.program.reached(name), reached[name])
        program = Program.read('def c() { b() } def b() { a() } def a() { } def d() { e() } def e() { d() }')
        self.assertEqual([program.reached(name) for name in 'abcde'], [[], ['a'], ['a', 'b'], ['d', 'e'], ['d', 'e']])
        chain = Program.read('def a() { b() } def b() { c() } def c() { d() } def d() { e() f() } def e() { } def f() { c() }')
        self.assertEqual([chain.reached(name) for name in 'abcdef'],
                         [['b', 'c', 'd', 'e', 'f'], ['c', 'd', 'e', 'f'], ['c', 'd', 'e', 'f'], ['c', 'd', 'e', 'f'], [],
                          ['c', 'd', 'e', 'f']])
        self.assertEqual([program.callees(name=name) for name in 'abcde'], [[], ['a'], ['b'], ['e'], ['d']])

    def test_places(self):
        self.assertEqual(self.program.places('f'), ['p', 'q'])
        self.assertEqual(self.program.places(name='h'), [])

    def test_cases(self):
        program = Program.read('globals b a def f(&q, x, &p) { } def g(&p) { } def h(x) { }')
        self.assertEqual(program.cases('f'), [('b', 'b'), ('b', 'a'), ('b', 'p'), ('a', 'b'), ('a', 'a'), ('a', 'p'),
                                              ('q', 'b'), ('q', 'a'), ('q', 'q'), ('q', 'p')])
        self.assertEqual(program.cases('g'), [('b',), ('a',), ('p',)])
        self.assertEqual(program.cases(name='h'), [()])
        bare = Program.read('def f(&q, &p) { }')
        self.assertEqual(bare.cases('f'), [('q', 'q'), ('q', 'p')])
        self.assertEqual(len(Program.read('globals a b c d def f(&p, &q) { }').cases('f')), 4 * 5 + 6)

    def test_cells(self):
        program = Program.read('globals b a def f(&q, x, &p) { } def h(x) { }')
        for case, cells in ((('b', 'b'), ()), (('b', 'p'), ('p',)), (('q', 'a'), ('q',)), (('q', 'q'), ('q',)), (('q', 'p'), ('q', 'p'))):
            self.assertEqual(program.cells('f', case), ('b', 'a') + cells)
        self.assertEqual(program.cells(name='h', case=()), ('b', 'a'))
        for name in program.functions:
            for case in (None, 0, True, 'qp', ['q', 'p'], ('p', 'p'), ('p', 'q'), ('q',), ('q', 'p', 'p'), ('x', 'p'), ('q', 'x'),
                         ('q', None), ('q', ['p']), ('q', True), ('a', 'q'), ('f', 'p'), {'q', 'p'}, ('', ''), (('q', 'p'),),
                         ('q', 'p') * 3000, object()):
                with self.assertRaises(InvalidCase) as caught:
                    program.cells(name, case)
                self.assertIs(caught.exception.value, case)

    def test_what_is_returned_is_new(self):
        program = self.program
        for call in (lambda: program.variables('f'), lambda: program.callees('f'), lambda: program.reached('f'),
                     lambda: program.places('f'), lambda: program.cases('f')):
            told = call()
            wanted = list(told)
            told.reverse()
            told.append('zz')
            self.assertEqual(call(), wanted)
        self.assertEqual(program, Program.read(TEXT))
        self.assertEqual(program.cells('f', ('p', 'q')), ('b', 'a', 'p', 'q'))


class TestMade(unittest.TestCase):
    def test_replaced(self):
        program = Program.read('globals a kinds k def f() { a = 1 } def g() { f() }')
        there = parse('def f() { a = 2 risk k }')[3][0]
        new = parse('def h() { g() }')[3][0]
        self.assertEqual(program.replaced(there), Program.read('globals a kinds k def f() { a = 2 risk k } def g() { f() }'))
        self.assertEqual(program.replaced(function=new), Program.read('globals a kinds k def f() { a = 1 } def g() { f() } def h() { g() }'))
        self.assertEqual(program.tree(), parse('globals a kinds k def f() { a = 1 } def g() { f() }'))
        self.assertEqual(Program(((), (), (), ())).replaced(('f', (), ())), Program.read('def f() { }'))

    def test_replaced_by_no_function(self):
        program = Program.read('globals a kinds k def f() { a = 1 } def g() { f() }')
        functions = program.tree()[3]
        for value in (None, True, 5, '', 'f', 'g', (), [], ['f', (), ()], {'f': 1}, ([],), (None, (), ()), ('h', ()), ('if', (), ()),
                      (['f'], (), ()), ({},), ('h', (), [])):
            with self.assertRaises(InvalidTree) as caught:
                program.replaced(value)
            self.assertEqual(caught.exception.value, (('a',), ('k',), (), functions + (value,)))
        for value in (('f',), ('f', ()), ('f', (), []), ('f', (), (), ()), ('f', (), 5)):
            with self.assertRaises(InvalidTree) as caught:
                program.replaced(value)
            self.assertEqual(caught.exception.value, (('a',), ('k',), (), (value, functions[1])))

    def test_replaced_raises_as_program(self):
        program = Program.read('globals a kinds k def f() { a = 1 } def g() { f() }')
        for text, error in (('def f(x) { }', WrongArguments), ('def h(a) { }', DuplicateName), ('def a() { }', DuplicateName),
                            ('def h() { return z }', UnknownName), ('def h(x, y, z, w) { }', TooLarge)):
            with self.assertRaises(error):
                program.replaced(parse(text)[3][0])
        self.assertEqual(program.functions, ('f', 'g'))

    def test_read(self):
        self.assertEqual(Program.read(TEXT), Program(parse(TEXT)))
        self.assertEqual(Program.read(text=''), Program(((), (), (), ())))
        for value in (None, 5, b'', ['def'], True):
            with self.assertRaises(InvalidText) as caught:
                Program.read(value)
            self.assertIs(caught.exception.value, value)
        with self.assertRaises(InvalidSyntax) as caught:
            Program.read('globals a def f( { }')
        self.assertEqual(caught.exception.position, 17)
        with self.assertRaises(UnknownName) as caught:
            Program.read('def f() { return a }')
        self.assertEqual(caught.exception.name, 'a')
