"""Verdicts and witnesses beside runs of the machine and of the second interpreter."""

import itertools
import unittest

from allornothing.errors import LimitExceeded
from allornothing.machine import Machine
from allornothing.programs import Program
from allornothing.summaries import Analysis
from allornothing.verdicts import change_witness, changed_cells, keeps_sums, verdicts, witness
from oracle import Oracle
from samples import Sample
from test_traces import size_of
from wrong import ANY, check_function_and_case


def told(text, name='f', case=None):
    return verdicts(Analysis(Program.read(text)), name, case)


def keeps_at(program, cells):
    """The values of the keeps, for the values of the cells."""
    worth = dict(zip(program.globals, cells))
    return [sum(factor * worth[name] for name, factor in terms) for _, terms in program.keeps]


def entries_of(program, name, case):
    """Some entries: in a small grid, where there are few values, and otherwise with few numbers that are not 0."""
    size = size_of(program, name, case)
    if size <= 3:
        return list(itertools.product((-1, 0, 2), repeat=size))
    found = [(0,) * size, (1,) * size, tuple(range(3, 3 + size))]
    for at in range(size):
        found.append(tuple(int(other == at) for other in range(size)))
        for more in range(at):
            found.append(tuple({at: 1, more: -1}.get(other, 0) for other in range(size)))
    return found


class Checked(unittest.TestCase):
    def check(self, program, name, case, lists=()):
        """Check all that is told of a function in a case; these lists of choices are run, too."""
        analysis = Analysis(program)
        found = verdicts(analysis, name, case)
        leaves = analysis.leaves(name, case)
        self.assertEqual(set(found), set(leaves))
        cells = program.cells(name, case)
        for (place, kind), verdict in found.items():
            changed = changed_cells(analysis, name, place, kind, case)
            self.assertEqual(changed, [cell for cell in cells if cell in changed])
            self.assertEqual(verdict == 'same', not changed)
            for cell in cells:
                shown = change_witness(analysis, name, place, kind, cell, case)
                self.assertEqual(shown is not None, cell in changed)
                if shown is not None:
                    before, after = self.shown(program, name, case, place, kind, shown)
                    self.assertNotEqual(before[cells.index(cell)], after[cells.index(cell)])
            shown = witness(analysis, name, place, kind, case)
            self.assertEqual(shown is not None, verdict == 'changed')
            if shown is not None:
                before, after = self.shown(program, name, case, place, kind, shown)
                self.assertNotEqual(before, after)
                if program.keeps:
                    self.assertFalse(any(keeps_at(program, before)))
                    self.assertTrue(any(keeps_at(program, after)))
        for choices in lists:
            self.check_run(program, name, case, found, choices)
        return found

    def shown(self, program, name, case, place, kind, pair):
        """The cells before and after the run of a witness."""
        self.assertIs(type(pair), tuple)
        entry, choices = pair
        self.assertIs(type(entry), tuple)
        self.assertIs(type(choices), tuple)
        run = Machine(program)(name, case, entry, list(choices))
        self.assertEqual(run, Oracle(program.tree()).run(name, case, entry, choices)[:5])
        self.assertEqual(run[:2], (kind, place))
        self.assertEqual(run[4], len(choices))
        return entry[:len(run[2])], run[2]

    def check_run(self, program, name, case, found, choices):
        """Check the verdicts and keeps_sums against runs with these choices."""
        analysis = Analysis(program)
        keeps = keeps_sums(analysis, name, case)
        for entry in entries_of(program, name, case):
            try:
                kind, place, cells, _, _ = Machine(program)(name, case, entry, choices)
            except LimitExceeded:
                return
            is_kept = any(keeps_at(program, entry)) or not any(keeps_at(program, cells))
            if kind is None:
                self.assertTrue(is_kept or not keeps)
                continue
            verdict = found[place, kind]
            changed = changed_cells(analysis, name, place, kind, case)
            for cell, before, after in zip(program.cells(name, case), entry, cells):
                self.assertTrue(before == after or cell in changed)
            if verdict == 'same':
                self.assertEqual(cells, entry[:len(cells)])
            elif verdict == 'sound':
                self.assertTrue(program.keeps)
                self.assertTrue(is_kept)

    def check_text(self, text, name='f', longest=6):
        program = Program.read(text)
        found = {}
        for case in program.cases(name):
            entry = (0,) * size_of(program, name, case)
            lists = [choices for choices, _ in Machine(program).runs(name, case, entry, longest, (0, 1, -2))]
            found[case] = self.check(program, name, case, lists[:200])
        return found


class TestByHand(Checked):
    def test_example(self):
        program = Program.read('globals a b kinds k l keep a + b def f(x) { risk k a = a + x risk k b = b - x risk l }')
        analysis = Analysis(program)
        self.assertEqual(sorted(verdicts(analysis, 'f').items()), [((0, 'k'), 'same'), ((2, 'k'), 'changed'), ((4, 'l'), 'sound')])
        self.assertEqual(changed_cells(analysis, 'f', 4, 'l'), ['a', 'b'])
        self.assertIsNone(witness(analysis, 'f', 4, 'l'))
        self.assertTrue(keeps_sums(analysis, 'f'))
        self.check_text('globals a b kinds k l keep a + b def f(x) { risk k a = a + x risk k b = b - x risk l }')

    def test_without_keeps(self):
        text = 'globals a b kinds k def f(x) { risk k a = a + x risk k b = b - x risk k a = a - x b = b + x risk k }'
        self.assertEqual(told(text), {(0, 'k'): 'same', (2, 'k'): 'changed', (4, 'k'): 'changed', (7, 'k'): 'same'})
        self.check_text(text)
        self.assertEqual(told('kinds k def f() { risk k }'), {(0, 'k'): 'same'})
        self.assertEqual(told('globals a kinds k def f() { a = a + 1 return a }'), {})

    def test_with_keeps(self):
        body = 'kinds k def f(x) { a = a + x risk k b = b + x risk k c = c - x risk k a = 1 b = 1 c = 1 risk k a = 0 b = 0 c = 0 risk k }'
        places = [(at, 'k') for at in (1, 3, 5, 9, 13)]
        for keeps, wanted in (('', 'changed changed changed changed changed'),
                              ('keep a - b ', 'changed sound sound sound sound'),
                              ('keep a - b keep b + c ', 'changed changed sound changed sound'),
                              ('keep a + b + 2*c ', 'changed changed sound changed sound'),
                              ('keep a - a ', 'sound sound sound sound sound'),
                              ('keep a keep b keep c ', 'changed changed changed changed sound'),
                              ('keep a + c keep a + c ', 'changed changed sound changed sound')):
            text = 'globals a b c ' + body.replace('kinds k ', 'kinds k ' + keeps)
            self.assertEqual([told(text)[place] for place in places], wanted.split(), keeps)
            self.check_text(text)

    def test_sums_matter_from_entries_where_they_are_0_only(self):
        # The sums are 0 again if they were 0 before, and only then.
        for text, wanted in (('a = 2*a b = 2*b', 'sound'), ('a = -b b = -a', 'sound'), ('a = a + 1 b = b - 2', 'changed'),
                             ('a = a + x b = b + x', 'changed'), ('a = 3*a - 2*b b = b - x + 5*x + 6*a', 'changed'),
                             ('b = -a', 'sound'), ('a = c b = -c', 'sound'), ('c = 7', 'sound'), ('a = a', 'same'),
                             ('a = -b', 'sound'), ('a = b', 'changed')):
            whole = 'globals a b c kinds k keep a + b def f(x) { ' + text + ' risk k }'
            self.assertEqual(list(told(whole).values()), [wanted], text)
            self.check_text(whole)

    def test_witness_of_the_second_keep(self):
        text = 'globals a b c kinds k keep a - b keep b - c def f(x) { a = a + x b = b + x risk k }'
        self.check_text(text)
        analysis = Analysis(Program.read(text))
        (entry, choices) = witness(analysis, 'f', 2, 'k')
        self.assertEqual(entry[0], entry[1])
        self.assertEqual(entry[1], entry[2])
        self.assertNotEqual(entry[3], 0)
        self.assertEqual(choices, (1,))

    def test_keeps_sums(self):
        head = 'globals a b kinds k keep a + b '
        for text, wanted in (('def f(x) { a = a + x b = b - x }', True), ('def f(x) { a = a + x }', False),
                             ('def f(x) { a = a + x risk k b = b - x }', True), ('def f() { a = a + 1 raise k }', True),
                             ('def f() { f() a = 1 }', True), ('def f() { while { a = a + 1 if { b = b - 1 } } }', False),
                             ('def f() { a = 2*a b = 2*b }', True), ('def f() { if { return 1 } a = a + 1 }', False),
                             ('def f() { try { a = a + 1 risk k b = b - 1 } except k { a = a - 1 } }', True),
                             ('def f() { a = ? b = -a }', True), ('def f() { a = ? b = ? }', False)):
            self.assertIs(keeps_sums(Analysis(Program.read(head + text)), 'f'), wanted, text)
            self.check_text(head + text)
            self.assertIs(keeps_sums(Analysis(Program.read(text.join(('globals a b kinds k ', '')))), 'f'), True)
        two = 'globals a b c kinds k keep a + b keep a + c '
        self.assertFalse(keeps_sums(Analysis(Program.read(two + 'def f() { a = a + 1 b = b - 1 }')), 'f'))
        self.assertTrue(keeps_sums(Analysis(Program.read(two + 'def f() { a = a + 1 b = b - 1 c = c - 1 }')), 'f'))
        self.assertTrue(keeps_sums(Analysis(Program.read(two + 'def f() { b = c }')), 'f'))
        self.assertFalse(keeps_sums(Analysis(Program.read(two + 'def f() { b = c + 1 c = b }')), 'f'))

    def test_constructs(self):
        for text in ('while { a = a + b try { if { risk k } } except k { b = b + 1 risk l } }',
                     'u = 0 while { if { a = u raise k } u = u + 1 }',
                     'while { u = v v = 1 a = a + u risk k, l } risk k',
                     'undo a { a = a + 1 b = b + 1 risk k undo b, b { b = 2 risk l } risk l }',
                     'with g(&a, 1), g(&b, u) swallow k { u = u + 1 risk k, l if { return 3 } }',
                     'try { try { a = 3 return a } finally { b = b + 1 risk k } } except k { while { risk l } } finally { if { b = 0 risk k } }',
                     'g(&a, b) g(&b, a)', 'if { f() } else { a = a + 1 risk k } b = b + 1 risk l',
                     'try { if { f() } a = a + b risk k } except k { a = a - b raise l }'):
            more = ' def g(&p, x) { p = p + x risk k p = p - x risk l if { g(&p, 1) } }'
            for keeps in ('', 'keep a + b ', 'keep a keep b '):
                self.check_text('globals a b kinds k l ' + keeps + 'def f() { ' + text + ' }' + more)
        self.assertEqual(told('globals a kinds k def f() { u = 0 v = 0 while { v = u u = 1 a = a + v risk k } }'), {(6, 'k'): 'changed'})

    def test_of_a_throw_that_never_leaves(self):
        analysis = Analysis(Program.read('globals a kinds k l def f(&p) { a = 1 p = 1 risk k try { raise l } except l { } }'))
        self.assertEqual(changed_cells(analysis, 'f', 2, 'k'), ['a', 'p'])
        self.assertEqual(changed_cells(analysis, 'f', 2, 'k', ('a',)), ['a'])
        for place, kind in ((0, 'k'), (2, 'l'), (4, 'l'), (2, 'zz'), (-1, 'k'), (99, 'k'), (None, 'k'), (2, None), ([2], ['k']), ({}, {}),
                            (True, 'k'), ('k', 2), ((2, 'k'), (2, 'k')), (2.0, 'k'), ('2', 'k'), (2, ('k',)), (2, ['k']), (2, {})):
            self.assertEqual(changed_cells(analysis, 'f', place, kind), [])
            self.assertIsNone(witness(analysis, 'f', place, kind))
            self.assertIsNone(change_witness(analysis, 'f', place, kind, 'a'))
        for cell in ('b', 'q', ANY, None, 0, 1, True, ['a'], {}, ('a',), '', 'k', 'f'):
            self.assertIsNone(change_witness(analysis, 'f', 2, 'k', cell))
        self.assertIsNone(change_witness(analysis, 'f', 2, 'k', 'p', ('a',)))
        self.assertIsNotNone(change_witness(analysis, 'f', 2, 'k', 'a', ('a',)))
        one = Analysis(Program.read('globals a kinds k def f() { a = a + 1 risk k }'))
        self.assertEqual(changed_cells(one, 'f', 1, 'k'), ['a'])
        self.assertEqual(changed_cells(one, 'f', True, 'k'), [])
        self.assertIsNone(witness(one, 'f', True, 'k'))
        self.assertIsNone(change_witness(one, 'f', True, 'k', 'a'))

    def test_arguments(self):
        program = Program.read('globals a kinds k def f(&p, &q) { p = p + 1 q = q - 1 risk k }')
        analysis = Analysis(program)
        self.assertEqual(verdicts(name='f', analysis=analysis), {(2, 'k'): 'changed'})
        self.assertEqual(verdicts(analysis, 'f', ('p', 'p')), {(2, 'k'): 'same'})
        self.assertEqual(verdicts(analysis=analysis, case=('p', 'q'), name='f'), verdicts(analysis, 'f', None))
        self.assertTrue(keeps_sums(case=('a', 'a'), name='f', analysis=analysis))
        self.assertEqual(changed_cells(case=('a', 'q'), kind='k', place=2, name='f', analysis=analysis), ['a', 'q'])
        self.assertEqual(changed_cells(analysis, 'f', 2, 'k', case=('p', 'p')), [])
        told_one = change_witness(case=None, cell='q', kind='k', place=2, name='f', analysis=analysis)
        self.assertEqual(told_one, change_witness(analysis, 'f', 2, 'k', 'q', ('p', 'q')))
        self.assertEqual(witness(case=None, kind='k', place=2, name='f', analysis=analysis), witness(analysis, 'f', 2, 'k'))
        for call in (verdicts, lambda *args: changed_cells(*args[:2], 2, 'k', *args[2:])):
            first = call(analysis, 'f')
            first.clear()
            self.assertTrue(call(analysis, 'f'))

    def test_errors(self):
        analysis = Analysis(Program.read('globals a kinds k def f(&p) { p = p + 1 risk k }'))
        calls = (lambda *args: verdicts(analysis, *args), lambda *args: keeps_sums(analysis, *args),
                 lambda name, case: changed_cells(analysis, name, [], {}, case),
                 lambda name, case: change_witness(analysis, name, [], {}, None, case),
                 lambda name, case: witness(analysis, name, 1, 'k', case))
        for call in calls:
            check_function_and_case(self, call)


class TestCases(Checked):
    def test_one_cell_is_as_the_other_name_written(self):
        body = ('p = p + q - 1 try { q = 2*q - a risk k, l } except k { undo p, q { q = p risk l a = a + 1 raise k } } '
                'while { p = q q = q + p risk k } g(&p, q) if { return 2 } with g(&q, a), g(&a, p) swallow k { risk l }')
        rest = ' def g(&r, y) { r = r + y risk k r = r - y risk l }'
        for keeps in ('', 'keep a ', 'keep a - 2*b '):
            head = 'globals a b kinds k l ' + keeps
            whole = head + 'def f(&p, &q) { ' + body + ' }' + rest
            for case, params in ((('p', 'p'), '&p'), (('a', 'q'), '&q'), (('p', 'b'), '&p'), (('b', 'a'), ''), (('a', 'a'), '')):
                words = ' '.join(dict(zip('pq', case)).get(word, word) for word in body.replace('&', '& ').replace(')', ' )')
                                 .replace(',', ' ,').replace('*', '* ').split(' '))
                other = head + 'def f(' + params + ') { ' + words + ' }' + rest
                self.assertEqual(told(whole, 'f', case), told(other), case)
                one, two = Analysis(Program.read(whole)), Analysis(Program.read(other))
                for place, kind in told(other):
                    self.assertEqual(changed_cells(one, 'f', place, kind, case), changed_cells(two, 'f', place, kind))
            self.check_text(whole, longest=4)


class TestRandom(Checked):
    def test_random(self):
        seen = {'same': 0, 'sound': 0, 'changed': 0}
        for start in range(300):
            sample = Sample(start, functions=3)
            for name in sample.names:
                case = sample.case(name)
                lists = [sample.choices(20) for _ in range(6)]
                for verdict in self.check(sample.program, name, case, lists).values():
                    seen[verdict] += 1
        self.assertGreater(min(seen.values()), 40)

    def test_recursive(self):
        words = ('set', 'set', 'call', 'if', 'while', 'risk', 'try', 'undo', 'with', 'return', 'input')
        for start in range(2000, 2060):
            sample = Sample(start, functions=2, most=4, words=words)
            for name in sample.names:
                case = sample.case(name)
                self.check(sample.program, name, case, [sample.choices(30) for _ in range(6)])
