"""The rules of runs, one by one."""

import unittest

from allornothing.errors import (InvalidCase, InvalidChoices, InvalidEntry, LimitExceeded, ProgramError,
                                 UnknownFunction)
from allornothing.machine import Machine
from allornothing.programs import Program

HEAD = 'globals a b kinds k l m '


def machine(text, head=HEAD):
    return Machine(Program.read(head + text))


def run(body, choices=(), entry=(0, 0), more='', params=''):
    """What a function f of the case with cells of its own does."""
    program = Program.read(HEAD + 'def f(' + params + ') { ' + body + ' } ' + more)
    return Machine(program)('f', tuple(program.places('f')), entry, list(choices))


class TestStatements(unittest.TestCase):
    def test_example(self):
        pay = Machine(Program.read('globals a b kinds k def pay() { a = a - 1 risk k b = b + 1 }'))
        forced = pay.injected([('pay', 1, 1, 'k')])
        self.assertEqual(pay('pay', (), (5, 0), [1]), ('k', 1, (4, 0), 0, 1))
        self.assertEqual(pay('pay', (), (5, 0), []), (None, None, (4, 1), 0, 1))
        self.assertEqual(forced('pay', (), (5, 0), []), ('k', 1, (4, 0), 0, 0))
        self.assertEqual(list(pay.runs('pay', (), (0, 0), 1)),
                         [([0], (None, None, (-1, 1), 0, 1)), ([1], ('k', 1, (-1, 0), 0, 1))])

    def test_sums(self):
        self.assertEqual(run('a = 2*a - 3*b + 4', entry=(5, 7))[2], (-7, 7))
        self.assertEqual(run('a = -a b = 0', entry=(5, 7))[2], (-5, 0))
        self.assertEqual(run('u = a a = b b = u', entry=(5, 7))[2], (7, 5))
        self.assertEqual(run('a = 999999999999*a', entry=(10 ** 59, 7))[2], (999999999999 * 10 ** 59, 7))
        self.assertEqual(run('return a - b', entry=(5, 7)), (None, None, (5, 7), -2, 0))

    def test_input(self):
        for choice in (0, 1, -1, 7, -10 ** 59, 10 ** 59):
            self.assertEqual(run('a = ?', [choice, 3])[2:], ((choice, 0), 0, 1))
        self.assertEqual(run('a = ? b = ?', [4])[2:], ((4, 0), 0, 2))
        self.assertEqual(run('a = 5 a = ?', [])[2:], ((0, 0), 0, 1))

    def test_if(self):
        for choice in (-4, -3, -2, -1, 0, 1, 2, 3, 10 ** 59, 10 ** 59 + 1):
            told = run('if { a = 1 } else { a = 2 }', [choice])
            self.assertEqual(told[2:], ((1, 0) if choice % 2 else (2, 0), 0, 1))
        self.assertEqual(run('if { a = 1 } else { a = 2 }')[2:], ((2, 0), 0, 1))
        self.assertEqual(run('if { a = 1 }', [0])[2:], ((0, 0), 0, 1))

    def test_while(self):
        for rounds in range(5):
            self.assertEqual(run('while { a = a + 1 } b = 1', [1] * rounds)[2:], ((rounds, 1), 0, rounds + 1))
            self.assertEqual(run('while { a = a + 1 }', [-1] * rounds + [2, 1, 1])[2:], ((rounds, 0), 0, rounds + 1))
        self.assertEqual(run('while { }', [1] * 5000)[2:], ((0, 0), 0, 5001))
        self.assertEqual(run('while { a = a + 1 risk k b = b + 1 }', [1, 0, 1, 1, 1]), ('k', 2, (2, 1), 0, 4))
        self.assertEqual(run('while { return 7 }', [1, 1]), (None, None, (0, 0), 7, 1))

    def test_risk_and_raise(self):
        kinds = (None, 'k', 'l', 'k')
        for choice in range(-9, 9):
            kind = kinds[choice % 4]
            self.assertEqual(run('risk k, l, k', [choice])[:2], (kind, None if kind is None else 0))
        self.assertEqual(run('risk k'), (None, None, (0, 0), 0, 1))
        self.assertEqual(run('a = 3 raise l b = 1', [1]), ('l', 1, (3, 0), 0, 0))
        self.assertEqual(run('if { raise l } return 4', [1]), ('l', 1, (0, 0), 0, 1))

    def test_places(self):
        body = 'if { risk k } else { risk k } while { risk l } try { risk m } except l { raise k } finally { risk k } risk k'
        for choices, place in (([1, 1], 1), ([0, 1], 2), ([0, 0, 1, 1], 4), ([0, 0, 0, 1], 6), ([0, 0, 0, 0, 1], 8),
                               ([0, 0, 0, 0, 0, 1], 9)):
            self.assertEqual(run(body, choices)[1], place)


class TestCalls(unittest.TestCase):
    def test_value_and_place(self):
        more = 'def g(x, &p) { x = x + 1 p = p + 2*x b = x }'
        self.assertEqual(run('g(a, &a)', entry=(10, 0), more=more)[2], (32, 11))
        self.assertEqual(run('g(5, &b)', entry=(10, 7), more=more)[2], (10, 6))
        self.assertEqual(run('u = 3 g(u, &u) a = u', more=more)[2], (11, 4))
        self.assertEqual(run('g(x, &x) a = x', entry=(0, 0, 4), more=more, params='x')[2], (14, 5))

    def test_args_are_worked_out_first(self):
        self.assertEqual(run('g(&a, a + 1)', entry=(4, 0), more='def g(&p, x) { p = 0 b = x }')[2], (0, 5))

    def test_one_cell(self):
        more = 'def g(&p, &q) { p = p + 1 q = 2*q }'
        self.assertEqual(run('g(&a, &a)', entry=(4, 9), more=more)[2], (10, 9))
        self.assertEqual(run('g(&a, &b)', entry=(4, 9), more=more)[2], (5, 18))
        text = 'def g(&p, &q) { p = p + 1 q = 2*q a = a + 100 }'
        told = machine(text)
        self.assertEqual(told('g', ('p', 'q'), (1, 2, 3, 4), [])[2], (101, 2, 4, 8))
        self.assertEqual(told('g', ('p', 'p'), (1, 2, 3), [])[2], (101, 2, 8))
        self.assertEqual(told('g', ('a', 'a'), (1, 2), [])[2], (104, 2))
        self.assertEqual(told('g', ('a', 'b'), (1, 2), [])[2], (102, 4))
        self.assertEqual(told('g', ('b', 'q'), (1, 2, 3), [])[2], (101, 3, 6))
        self.assertEqual(told('g', ('p', 'a'), (1, 2, 3), [])[2], (102, 2, 4))

    def test_entry_has_cells_then_values(self):
        told = machine('def g(x, &p, y) { a = x b = y p = p + 1 }')
        self.assertEqual(told('g', ('p',), (1, 2, 3, 4, 5), [])[2], (4, 5, 4))
        self.assertEqual(told('g', ('b',), (1, 2, 4, 5), [])[2], (4, 6))

    def test_results(self):
        self.assertEqual(run('a = g() b = 1', more='def g() { return 5 }')[2:4], ((5, 1), 0))
        self.assertEqual(run('a = g()', entry=(3, 0), more='def g() { }')[2], (0, 0))
        self.assertEqual(run('g() return a', entry=(3, 0), more='def g() { return 5 }')[2:4], ((3, 0), 3))
        self.assertEqual(run('a = g(a)', entry=(3, 0), more='def g(x) { a = 9 return x + a }')[2], (12, 0))
        self.assertEqual(run('a = g()', [1], entry=(3, 0), more='def g() { risk k return 1 }'), ('k', 0, (3, 0), 0, 1))

    def test_locals_belong_to_one_call(self):
        more = 'def g() { a = a + u u = u + 1 if { g() } b = u }'
        self.assertEqual(run('g() g()', [1, 1, 0, 0], more=more)[2], (0, 1))
        self.assertEqual(run('u = 5 g() a = a + u', [0], more=more)[2], (5, 1))

    def test_local_by_place_is_the_same_cell(self):
        self.assertEqual(run('u = 1 g(&u) a = u', more='def g(&p) { p = p + 1 if { g(&p) } }', choices=[1, 1, 0])[2], (4, 0))

    def test_place_is_that_of_the_call(self):
        more = 'def g() { a = 1 h() } def h() { b = 1 risk k b = 2 }'
        self.assertEqual(run('a = 0 g() a = 7', [1], more=more), ('k', 1, (1, 1), 0, 1))

    def test_returns_from_any_place(self):
        for body in ('return 3', 'if { return 3 }', 'while { return 3 }', 'undo a { a = 1 return 3 }',
                     'try { return 3 } finally { b = 1 }', 'try { raise k } except k { return 3 }',
                     'with g(), g() { return 3 }'):
            told = run(body + ' a = 9', [1], more='def g() { b = b + 1 }')
            self.assertEqual((told[0], told[1], told[3]), (None, None, 3))
            self.assertNotEqual(told[2][0], 9)

    def test_return_is_worked_out_before_finally(self):
        self.assertEqual(run('try { return a } finally { a = 8 }', entry=(2, 0))[2:4], ((8, 0), 2))
        self.assertEqual(run('with g(), g() { return a }', entry=(2, 0), more='def g() { a = a + 1 }')[2:4], ((4, 0), 3))


class TestThrows(unittest.TestCase):
    def test_handlers(self):
        body = 'try { risk k, l, m } except k { a = 1 } except l, k { a = 2 } b = 1'
        self.assertEqual(run(body, [1]), (None, None, (1, 1), 0, 1))
        self.assertEqual(run(body, [2]), (None, None, (2, 1), 0, 1))
        self.assertEqual(run(body, [3]), ('m', 1, (0, 0), 0, 1))
        self.assertEqual(run(body, [0]), (None, None, (0, 1), 0, 1))

    def test_inner_handlers_first(self):
        body = 'try { try { risk k, l } except k { a = 1 risk k } } except k { a = a + 10 } except l { a = 5 }'
        self.assertEqual(run(body, [1, 0])[2], (1, 0))
        self.assertEqual(run(body, [1, 1])[2], (11, 0))
        self.assertEqual(run(body, [2])[2], (5, 0))

    def test_throw_of_a_handler_is_not_handled_by_its_try(self):
        self.assertEqual(run('try { raise k } except k { a = 1 raise l } except l { a = 2 }'), ('l', 3, (1, 0), 0, 0))
        self.assertEqual(run('try { raise k } except k { raise k } finally { b = 1 }'), ('k', 2, (0, 1), 0, 0))

    def test_finally(self):
        body = 'try { risk k, l } except k { a = 1 } finally { b = 1 risk m b = 2 } a = a + 10'
        self.assertEqual(run(body, [0, 0]), (None, None, (10, 2), 0, 2))
        self.assertEqual(run(body, [1, 0]), (None, None, (11, 2), 0, 2))
        self.assertEqual(run(body, [2, 0]), ('l', 1, (0, 2), 0, 2))
        for choices, cells in (([0, 1], (0, 1)), ([1, 1], (1, 1)), ([2, 1], (0, 1))):
            self.assertEqual(run(body, choices), ('m', 4, cells, 0, 2))

    def test_finally_throws_over_a_return(self):
        self.assertEqual(run('try { return 5 } finally { risk k }', [1]), ('k', 2, (0, 0), 0, 1))
        self.assertEqual(run('try { try { return 5 } finally { raise k } } except k { a = 1 } a = a + 1'),
                         (None, None, (2, 0), 0, 0))

    def test_place_passes_a_finally(self):
        self.assertEqual(run('a = 1 try { raise k } finally { b = 1 }'), ('k', 2, (1, 1), 0, 0))
        self.assertEqual(run('undo a { a = 1 raise k }'), ('k', 2, (0, 0), 0, 0))
        self.assertEqual(run('with g(), g() { raise k }', more='def g() { b = b + 1 }'), ('k', 1, (0, 2), 0, 0))

    def test_undo(self):
        self.assertEqual(run('a = 3 undo a { a = 4 b = 5 risk k }', [1], (1, 2)), ('k', 4, (3, 5), 0, 1))
        self.assertEqual(run('a = 3 undo a { a = 4 b = 5 risk k }', [0], (1, 2)), (None, None, (4, 5), 0, 1))
        self.assertEqual(run('undo b, a, b { a = 4 b = 5 risk k }', [1], (1, 2))[2], (1, 2))
        self.assertEqual(run('undo a { a = 4 return 1 }', [], (1, 2))[2], (4, 2))
        self.assertEqual(run('try { u = 1 undo u { u = 2 raise k } } except k { a = u }')[2], (1, 0))
        self.assertEqual(run('undo p { a = 5 p = p + 1 raise k }', [], (1, 2, 3), params='&p')[2], (5, 2, 3))
        same = machine('def g(&p) { undo p { a = 5 p = p + 1 raise k } }')
        self.assertEqual(same('g', ('a',), (1, 2), [])[2], (1, 2))

    def test_undo_in_undo(self):
        self.assertEqual(run('undo a { a = 1 undo b { a = 2 b = 2 raise k } }', [], (7, 8))[2], (7, 8))
        self.assertEqual(run('undo b { a = 1 undo a { a = 2 b = 2 raise k } }', [], (7, 8))[2], (1, 8))
        self.assertEqual(run('undo a { a = 1 try { undo a { a = 2 raise k } } except k { b = a } }', [], (7, 8))[2], (1, 1))

    def test_undo_of_a_cell_that_a_call_changed(self):
        more = 'def g(&p) { p = p + 1 risk k p = 50 }'
        self.assertEqual(run('undo a { g(&a) }', [1], (1, 2), more), ('k', 1, (1, 2), 0, 1))

    def test_with(self):
        more = 'def g(x) { a = a + x risk k } def h(x) { b = b + x risk l }'
        body = 'with g(1), h(a) swallow m, k { a = a + 10 risk k, l, m a = a + 100 } a = a + 1000'
        self.assertEqual(run(body, [0, 0, 0], more=more), (None, None, (1111, 111), 0, 3))
        self.assertEqual(run(body, [1], more=more), ('k', 0, (1, 0), 0, 1))
        self.assertEqual(run(body, [0, 1, 0], more=more), (None, None, (1011, 11), 0, 3))
        self.assertEqual(run(body, [0, 3, 0], more=more), (None, None, (1011, 11), 0, 3))
        self.assertEqual(run(body, [0, 2, 0], more=more), ('l', 2, (11, 11), 0, 3))
        for middle, cells in ((0, (111, 111)), (1, (11, 11)), (2, (11, 11)), (3, (11, 11))):
            self.assertEqual(run(body, [0, middle, 1], more=more), ('l', 0, cells, 0, 3))

    def test_with_does_not_swallow_its_own_calls(self):
        more = 'def g() { risk k } def h() { risk k }'
        body = 'with g(), h() swallow k { a = 1 }'
        self.assertEqual(run(body, [1], more=more)[:2], ('k', 0))
        self.assertEqual(run(body, [0, 1], more=more)[:2], ('k', 0))

    def test_with_is_left_by_return(self):
        more = 'def g() { a = a + 1 } def h() { b = b + 1 risk k }'
        self.assertEqual(run('with g(), h() swallow k { return 4 } a = 50', [0], more=more), (None, None, (1, 1), 4, 1))
        self.assertEqual(run('with g(), h() swallow k { return 4 } a = 50', [1], more=more), ('k', 0, (1, 1), 0, 1))

    def test_layers(self):
        more = 'def g() { a = a + 1 } def h() { b = b + 1 }'
        body = ('undo a { a = 50 try { with g(), h() swallow l { undo a { a = 90 risk k, l } } } finally { b = 10*b } '
                'raise m }')
        self.assertEqual(run(body, [1], (1, 1), more), ('k', 6, (1, 20), 0, 1))
        self.assertEqual(run(body, [2], (1, 1), more), ('m', 8, (1, 20), 0, 1))
        self.assertEqual(run('try { ' + body + ' } except m { return a }', [2], (1, 1), more)[2:4], ((1, 20), 1))


class TestLimits(unittest.TestCase):
    def test_steps(self):
        count = machine('def f() { while { a = a + 1 } b = 1 }')
        self.assertEqual(count('f', (), (0, 0), [1] * 3998)[2:], ((3998, 1), 0, 3999))
        for args in ((1,) * 3999, (1,) * 5000):
            with self.assertRaises(LimitExceeded) as caught:
                count('f', (), (0, 0), list(args))
            self.assertEqual(caught.exception.word, 'steps')
            self.assertNotIsInstance(caught.exception, ProgramError)
        self.assertEqual(count('f', (), (0, 0), [1])[2], (1, 1))

    def test_steps_of_all_statements(self):
        count = machine('def f() { while { if { } g() } } def g() { try { risk k undo a { } } finally { } }')
        self.assertEqual(count('f', (), (0, 0), [1, 0, 0] * 799)[4], 799 * 3 + 1)
        with self.assertRaises(LimitExceeded):
            count('f', (), (0, 0), [1, 0, 0] * 800)

    def test_calls(self):
        deep = machine('def f() { a = a + 1 if { f() } b = b + 1 } def g() { if { with f(), f() { } } else { f() } }')
        self.assertEqual(deep('f', (), (0, 0), [1] * 19)[2], (20, 20))
        for name, choices in (('f', [1] * 20), ('g', [0] + [1] * 19), ('g', [1] + [1] * 19), ('g', [1, 0] + [1] * 19)):
            for call in (deep, deep.passings, deep.replayed):
                with self.assertRaises(LimitExceeded) as caught:
                    call(name, (), (0, 0), choices)
                self.assertEqual(caught.exception.word, 'calls')
        self.assertEqual(deep('g', (), (0, 0), [0] + [1] * 18)[2], (19, 19))
        self.assertEqual(deep('g', (), (0, 0), [1] + [1] * 18 + [0] + [1] * 18)[2], (38, 38))
        many = machine('def f() { while { g() } } def g() { a = a + 1 }')
        self.assertEqual(many('f', (), (0, 0), [1] * 500)[2], (500, 0))

    def test_steps_before_calls(self):
        both = machine('def f() { while { } if { f() } a = 1 }')
        self.assertEqual(both('f', (), (0, 0), [0, 1] * 19)[2], (1, 0))
        with self.assertRaises(LimitExceeded) as caught:
            both('f', (), (0, 0), [0, 1] * 20)
        self.assertEqual(caught.exception.word, 'calls')

    def test_limits_leave_through_all_layers(self):
        text = 'def f() { try { undo a { with g(), g() swallow k { f() } } } except k, l, m { } finally { a = 1 } } def g() { }'
        with self.assertRaises(LimitExceeded):
            machine(text)('f', (), (0, 0), [])


class TestTold(unittest.TestCase):
    def test_passings_and_replayed(self):
        told = machine('def f() { risk k while { try { risk l, m a = ? } except m { g() } } } def g() { risk l }')
        args = ('f', (), (0, 0), [4, 3, 6, -7, 5, 2, 8, 6])
        self.assertEqual(told(*args), (None, None, (-7, 0), 0, 8))
        self.assertEqual(told.passings(*args), [('f', 0), ('f', 3), ('f', 3), ('g', 0)])
        self.assertEqual(told.replayed(*args), [4, 3, 6, -7, 5, 2, 8, 6])
        self.assertEqual(told.replayed('f', (), (0, 0), []), [0, 0])
        self.assertEqual(told.replayed('f', (), (0, 0), [4, 3]), [4, 3, 0, 0, 0])
        self.assertEqual(told.replayed('f', (), (0, 0), [1, 5, 5]), [1])
        self.assertEqual(told.passings('f', (), (0, 0), [1]), [('f', 0)])
        self.assertEqual(told('f', (), (0, 0), [1, 5, 5])[4], 1)

    def test_lists_are_new(self):
        told = machine('def f() { risk k }')
        for call in (told.passings, told.replayed):
            choices = [0]
            first = call('f', (), (0, 0), choices)
            wanted = list(first)
            first.append(9)
            self.assertEqual(choices, [0])
            self.assertEqual(call('f', (), (0, 0), choices), wanted)

    def test_by_name(self):
        told = machine('def f() { risk k }')
        named = {'choices': [1], 'entry': (0, 0), 'case': (), 'name': 'f'}
        self.assertEqual(told(**named), ('k', 0, (0, 0), 0, 1))
        self.assertEqual(told.passings(**named), [('f', 0)])
        self.assertEqual(told.replayed(**named), [1])
        self.assertEqual(Machine(program=Program.read('def f() { }'))('f', (), (), []), (None, None, (), 0, 0))


class TestErrors(unittest.TestCase):
    def setUp(self):
        self.told = machine('def f(&p, x) { a = x risk k }')

    def refused(self, error, value, *args):
        for call in (self.told, self.told.passings, self.told.replayed):
            with self.assertRaises(error) as caught:
                call(*args)
            field = caught.exception.name if error is UnknownFunction else caught.exception.value
            self.assertIs(field, value)
        if error is not InvalidChoices:
            with self.assertRaises(error):
                list(self.told.runs(*args[:3], 1))

    def test_functions(self):
        for name in ('g', '', 'a', 'F', None, True, 0, 1.5, ('f',), ['f'], {'f': 1}, {'f'}, b'f', self):
            self.refused(UnknownFunction, name, name, None, None, None)

    def test_cases(self):
        for case in (None, (), ['p'], ('p', 'p'), ('x',), ('q',), 'p', (None,), (['p'],), 0, True, {'p': 1}, ('',), (('p',),)):
            self.refused(InvalidCase, case, 'f', case, None, None)

    def test_entries(self):
        good = (1, 2, 3, 4)
        for entry in (None, (), good[:3], good + (5,), list(good), (1, 2, True, 4), (1, 2, 3, False), (1, 2, 3, 4.0),
                      (1, 2, None, 4), ('1', 2, 3, 4), (1, 2, 3, (4,)), 'abcd', 4, {1: 1}, range(4)):
            self.refused(InvalidEntry, entry, 'f', ('p',), entry, None)
        self.refused(InvalidEntry, good, 'f', ('a',), good, None)
        self.assertEqual(self.told('f', ('p',), good, [])[2], (4, 2, 3))
        self.assertEqual(self.told('f', ('a',), good[:3], [])[2], (3, 2))

    def test_choices(self):
        for choices in (None, (), (1,), [True], [0, False], [0, None], [1.0], ['1'], [[1]], 1, '', {}, {1}, range(2), True):
            self.refused(InvalidChoices, choices, 'f', ('p',), (1, 2, 3, 4), choices)

    def test_order(self):
        self.refused(UnknownFunction, 'g', 'g', ['p'], [1], (1,))
        self.refused(InvalidCase, 'p', 'f', 'p', 1, 1)
