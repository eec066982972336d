"""Logs beside all sets of variables."""

import itertools
import unittest

from allornothing.errors import DuplicateName, LimitExceeded, TooLarge, UnknownFunction, UnknownName
from allornothing.logs import all_or_nothing, fewest, forced, wrapped
from allornothing.machine import Machine
from allornothing.programs import Draft, Program
from allornothing.summaries import Analysis
from allornothing.texts import parse
from allornothing.verdicts import verdicts
from samples import Sample
from wrong import ANY, check_function_and_case

CALLS = ('set', 'set', 'set', 'call', 'call', 'call', 'if', 'if', 'while', 'risk', 'try', 'try', 'undo', 'with', 'return', 'raise')
MIXED = ('set',) * 6 + ('input', 'call', 'if', 'while', 'risk', 'risk', 'raise', 'try', 'undo', 'with', 'return')
TWO = ('globals a b kinds k def f() { s = a if { try { f() } except k { b = b + a - s raise k } } else { a = a + 1 raise k } } '
       'def g(&p, &q) { p = p + 1 u = q p = p - 1 q = u risk k }')


def drafted(program, name, variables, order=None):
    """The program with the body of a function, in this order, in an undo, of any size."""
    functions = []
    for one, params, block in program.tree()[3]:
        if one == name:
            block = block if order is None else tuple(block[item] for item in order)
            block = (('undo', tuple(variables), block),) if variables else block
        functions.append((one, params, block))
    return Draft(program.tree()[:3] + (tuple(functions),))


def subsets(names):
    return [chosen for many in range(len(names) + 1) for chosen in itertools.combinations(names, many)]


class Checked(unittest.TestCase):
    def check_forced(self, program, name, case):
        found = forced(program, name, case)
        cells = program.cells(name, case)
        self.assertEqual(found, tuple(cell for cell in cells if cell in found))
        for chosen in subsets(cells):
            is_enough = all_or_nothing(drafted(program, name, chosen), name, case)
            self.assertEqual(is_enough, set(found) <= set(chosen), (program.tree(), name, case, chosen))
        return found

    def check_fewest(self, program, name):
        for chosen in subsets(program.globals + tuple(program.places(name))):
            other = drafted(program, name, chosen)
            if all(all_or_nothing(other, name, case) for case in program.cases(name)):
                self.assertEqual(fewest(program, name), chosen, (program.tree(), name))
                return chosen
        raise AssertionError('with all variables it must be')

    def check_text(self, text, name='f'):
        program = Program.read(text)
        self.check_fewest(program, name)
        return {case: self.check_forced(program, name, case) for case in program.cases(name)}


class TestWrapped(unittest.TestCase):
    TEXT = 'globals a b kinds k def f(&p, x) { u = a b = ? p = u } def g() { u = 1 f(&a, 2) }'

    def test_variables(self):
        program = Program.read(self.TEXT)
        for variables in (('a',), ('b', 'a'), ('a', 'a'), ('u',), ('x', 'p'), ('p', 'a', 'u', 'p', 'x', 'b')):
            other = wrapped(program, 'f', variables)
            wanted = self.TEXT.replace('u = a b = ? p = u', 'undo ' + ', '.join(variables) + ' { u = a b = ? p = u }')
            self.assertEqual(other.tree(), parse(wanted))
            self.assertIs(type(other), Program)
        self.assertEqual(wrapped(program, 'f', ()), program)
        self.assertIs(type(wrapped(program, 'f', ())), Program)
        self.assertEqual(wrapped(variables=('u',), name='g', program=program).tree(),
                         parse(self.TEXT.replace('u = 1 f(&a, 2)', 'undo u { u = 1 f(&a, 2) }')))
        self.assertEqual(program.tree(), parse(self.TEXT))
        self.assertEqual(wrapped(Program.read('globals a def f() { }'), 'f', ('a',)).tree(), parse('globals a def f() { undo a { } }'))

    def test_errors(self):
        program = Program.read(self.TEXT)
        for name in (None, 'h', 'a', '', ['f'], ('f',), True, {}, 1):
            with self.assertRaises(UnknownFunction) as caught:
                wrapped(program, name, None)
            self.assertIs(caught.exception.name, name)
        for value in (None, ['a'], 'a', True, 1, {}, {'a'}, {'a': 1}, range(0)):
            with self.assertRaises(UnknownName) as caught:
                wrapped(program, 'f', value)
            self.assertIs(caught.exception.name, value)
        for values, wrong in ((('c',), 'c'), (('a', 'k'), 'k'), (('a', 'f', 'g'), 'f'), ((None,), None), ((1, 2), 1), ((['a'],), ['a']),
                              (('p', ('a',)), ('a',)), (('u', True), True), (('x', 'v', 'u'), 'v'), (('',), ''), (({},), {}), ((ANY,), ANY)):
            with self.assertRaises(UnknownName) as caught:
                wrapped(program, 'f', values)
            self.assertEqual(caught.exception.name, wrong)
        with self.assertRaises(UnknownName) as caught:
            wrapped(program, 'g', ('a', 'p'))
        self.assertEqual(caught.exception.name, 'p')

    def test_beyond_the_limits(self):
        full = Program.read('globals a kinds k def f() { ' + 'a = a ' * 60 + '}')
        deep = Program.read('globals a kinds k def f() { if { if { if { if { if { raise k } } } } } }')
        for program, word in ((full, 'statements'), (deep, 'nesting')):
            with self.assertRaises(TooLarge) as caught:
                wrapped(program, 'f', ('a',))
            self.assertEqual(caught.exception.word, word)
            with self.assertRaises(UnknownName):
                wrapped(program, 'f', ('a', 'b'))
            self.assertEqual(wrapped(program, 'f', ()), program)
        for error in (DuplicateName, TooLarge):
            self.assertFalse(issubclass(UnknownName, error))


class TestAllOrNothing(Checked):
    def test_is_that_all_verdicts_are_the_same(self):
        seen = {False: 0, True: 0}
        for start in range(150):
            sample = Sample(start, functions=3)
            for name in sample.names:
                for case in sample.program.cases(name):
                    found = verdicts(Analysis(sample.program), name, case)
                    wanted = all(verdict == 'same' for verdict in found.values())
                    self.assertIs(all_or_nothing(sample.program, name, case), wanted)
                    seen[wanted] += bool(found)
        self.assertGreater(min(seen.values()), 50)

    def test_by_hand(self):
        program = Program.read(TWO)
        self.assertFalse(all_or_nothing(program, 'f'))
        self.assertTrue(all_or_nothing(program, 'g', ('a', 'b')) == all_or_nothing(program, name='g', case=('a', 'b')))
        self.assertTrue(all_or_nothing(program, 'g'))
        self.assertFalse(all_or_nothing(program, 'g', ('p', 'p')))
        self.assertTrue(all_or_nothing(Program.read('globals a def f() { a = 1 }'), 'f'))
        self.assertTrue(all_or_nothing(Program.read('globals a kinds k keep a def f() { undo a { a = 1 raise k } }'), 'f'))
        self.assertFalse(all_or_nothing(Program.read('globals a b kinds k keep a - b def f() { a = 1 b = 1 raise k }'), 'f'))


class TestForced(Checked):
    def test_example(self):
        program = Program.read(TWO)
        self.assertEqual(forced(program, 'f'), ('a',))
        self.assertEqual(forced(program, 'g'), ())
        self.assertEqual(forced(program, 'g', ('p', 'p')), ('p',))
        self.assertEqual(fewest(program, 'g'), ('p',))
        self.assertEqual(fewest(program, 'f'), ('a',))
        self.check_text(TWO, 'f')
        self.check_text(TWO, 'g')

    def test_by_hand(self):
        self.assertEqual(self.check_text('globals a b c kinds k def f(&p, x) { c = c + 1 p = p - x raise k }'),
                         {('a',): ('a', 'c'), ('b',): ('b', 'c'), ('c',): ('c',), ('p',): ('c', 'p')})
        self.assertEqual(fewest(Program.read('globals a b c kinds k def f(&p, x) { c = c + 1 p = p - x raise k }'), 'f'), ('c', 'p'))
        self.assertEqual(self.check_text('globals a kinds k def f() { a = 1 risk k a = 2 }'), {(): ('a',)})
        self.assertEqual(self.check_text('globals a kinds k def f() { risk k a = 1 }'), {(): ()})
        self.assertEqual(self.check_text('kinds k def f(x) { x = 1 raise k }'), {(): ()})
        self.assertEqual(self.check_text('kinds k def f(&p, &q) { p = q raise k }'), {('p', 'p'): (), ('p', 'q'): ('p',)})

    def test_of_several_the_first(self):
        # Which one is logged is the same where both are one cell, and only there.
        program = Program.read('globals a b kinds k def f(&p, &q) { p = p + 1 u = q p = p - 1 q = u risk k }')
        self.assertEqual(fewest(program, 'f'), ('p',))
        self.check_text('globals a b kinds k def f(&p, &q) { p = p + 1 u = q p = p - 1 q = u risk k }')
        for text in ('globals a b kinds k def f(&p, &q) { q = q + 1 u = p q = q - 1 p = u risk k }',
                     'globals a b kinds k def f(&p) { p = p + 1 u = a p = p - 1 a = u risk k }',
                     'globals a b kinds k def f(&p, &q) { p = p + 1 u = a v = q p = p - 1 a = u q = v risk k }',
                     'globals a kinds k def f(&p, &q) { a = a + 1 p = 2*p - q raise k }'):
            self.check_text(text)

    def test_that_call_themselves(self):
        head = 'globals a b c kinds k l '
        for text in ('def f() { if { try { f() } except k { b = b + a - c raise l } } a = a + 1 c = c + 1 risk k }',
                     'def f() { while { try { f() } except k { b = b + a } } a = a + 1 if { raise k } a = a - 1 }',
                     'def f() { try { g() } except k { c = c - a risk l c = c + a } } def g() { if { f() } a = a + 1 risk k a = a - 1 }',
                     'def f() { a = a + 1 if { f() } risk k a = a - 1 }', 'def f() { undo a { if { f() } a = 2 risk k } b = b + a risk l }',
                     'def f(x) { u = a if { try { f(x) } except k, l { } } b = b + a - u a = a + x if { raise l } a = a - x b = b - a + u risk k }',
                     'def f() { f() a = 1 raise k }'):
            self.check_text(head + text)
        # The changes of calls count where the function itself catches what they throw.
        self.assertEqual(forced(Program.read(head + 'def f() { if { try { f() } except k { } } a = a + 1 b = b + 1 risk k }'), 'f'), ('a', 'b'))

    def test_limits_play_no_part(self):
        full = Program.read('globals a kinds k def f() { ' + 'a = a + 1 ' * 59 + 'risk k }')
        deep = Program.read('globals a b kinds k def f() { if { if { if { if { if { b = 1 raise k } } } } } }')
        self.assertEqual((forced(full, 'f'), fewest(full, 'f')), (('a',), ('a',)))
        self.assertEqual((forced(deep, 'f'), fewest(deep, 'f')), (('b',), ('b',)))
        self.check_text('globals a b kinds k def f() { if { if { if { if { if { b = 1 f() raise k } } } } } }')

    def test_random(self):
        seen = []
        for start in range(120):
            sample = Sample(start, functions=3, most=6, depth=2, words=MIXED)
            for name in sample.names:
                case = sample.case(name)
                if name not in sample.program.reached(name) or not sample.program.places(name):
                    seen.append(len(self.check_forced(sample.program, name, case)))
                    self.assertEqual(forced(sample.program, name), forced(sample.program, name, tuple(sample.program.places(name))))
                seen.append(len(self.check_fewest(sample.program, name)))
        self.assertGreater(sum(many > 1 for many in seen), 30)

    def test_random_that_call_themselves(self):
        many = 0
        for start in range(400, 440):
            sample = Sample(start, functions=2, most=4, depth=2, words=CALLS)
            for name in sample.names:
                if name in sample.program.reached(name):
                    many += 1
                    if not sample.program.places(name):
                        self.check_forced(sample.program, name, ())
                    if start not in (417,):
                        self.check_fewest(sample.program, name)
        self.assertGreater(many, 20)

    def test_undone_at_the_machine(self):
        for start in range(60):
            sample = Sample(start, functions=3)
            for name in sample.names:
                if name in sample.program.reached(name):
                    continue
                case = sample.case(name)
                try:
                    program = wrapped(sample.program, name, forced(sample.program, name, case))
                except TooLarge:
                    continue
                for _ in range(10):
                    entry = sample.entry(name, case)
                    try:
                        kind, _, cells, _, _ = Machine(program)(name, case, entry, sample.choices())
                    except LimitExceeded:
                        continue
                    self.assertTrue(kind is None or cells == entry[:len(cells)])

    def test_errors(self):
        program = Program.read(TWO)
        for call in (all_or_nothing, forced):
            check_function_and_case(self, lambda name, case: call(program, name, case), 'g', ('p', 'q'))
        for name in (None, 'h', ['f'], True):
            with self.assertRaises(UnknownFunction) as caught:
                fewest(program, name)
            self.assertIs(caught.exception.name, name)
        self.assertEqual(fewest(name='g', program=program), ('p',))
        self.assertEqual(forced(case=('p', 'p'), name='g', program=program), ('p',))
