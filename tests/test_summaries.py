"""The runs of an Analysis beside the runs of the machine."""

import random
import unittest

from allornothing.errors import LimitExceeded
from allornothing.machine import Machine
from allornothing.programs import Program
from allornothing.rows import reduced
from allornothing.summaries import Analysis
from allornothing.traces import traced
from oracle import Oracle
from samples import Sample
from test_traces import size_of
from wrong import check_function_and_case


def flat(matrix):
    return tuple(number for row in matrix for number in row)


def told_by(analysis, name, case=None):
    """A dict from all endings, None for a return, to the runs."""
    told = dict(analysis.leaves(name, case))
    returns = analysis.returns(name, case)
    if returns:
        told[None] = returns
    return told


class Checked(unittest.TestCase):
    def check(self, program, name, case, lists=()):
        """Check what is told of a function against runs with these lists of choices; return it."""
        told = told_by(Analysis(program), name, case)
        spans = {}
        for ending, runs in told.items():
            self.assertTrue(runs)
            for matrix, choices in runs:
                self.assertIs(type(choices), tuple)
                self.assertEqual(traced(program, name, case, list(choices)), (ending, matrix, len(choices)))
            rows = [flat(matrix) for matrix, _ in runs]
            spans[ending] = reduced(rows, len(rows[0]))
            self.assertEqual(len(spans[ending]), len(rows))
        for choices in lists:
            try:
                ending, matrix, _ = traced(program, name, case, list(choices))
            except LimitExceeded:
                continue
            self.assertIn(ending, spans)
            row = flat(matrix)
            self.assertEqual(reduced(spans[ending] + [row], len(row)), spans[ending], (program.tree(), name, case, choices))
        return told

    def check_all(self, text, name='f', many=300, longest=80):
        """Check a function in all cases against short runs and long ones."""
        program = Program.read(text)
        found = {}
        for case in program.cases(name):
            entry = (0,) * size_of(program, name, case)
            lists = [choices for choices, _ in Machine(program).runs(name, case, entry, 5, (0, 1, -3, 10))]
            chosen = random.Random(text)
            for _ in range(many):
                weights = chosen.choice(((5, 5, 1, 1), (1, 8, 1, 1), (8, 2, 1, 1)))
                lists.append(chosen.choices((0, 1, 2, 7), weights, k=chosen.randint(0, longest)))
            found[case] = self.check(program, name, case, lists)
        return found

    def counts(self, text, name='f', case=None):
        """How many runs are told for each ending."""
        return {ending: len(runs) for ending, runs in told_by(Analysis(Program.read(text)), name, case).items()}


class TestByHand(Checked):
    def test_example(self):
        program = Program.read('globals a kinds k def f(x) { while { a = a + x } risk k return 2*a }')
        analysis = Analysis(program)
        self.assertEqual(len(analysis.returns('f')), 2)
        self.assertEqual(list(analysis.leaves('f')), [(2, 'k')])
        self.check_all('globals a kinds k def f(x) { while { a = a + x } risk k return 2*a }')

    def test_straight(self):
        self.assertEqual(told_by(Analysis(Program.read('globals a b def f(x) { u = a a = b + x b = u return a - 3 }')), 'f'),
                         {None: [(((1, 0, 0, 0), (0, 0, 1, 1), (0, 1, 0, 0), (-3, 0, 1, 1)), ())]})
        self.assertEqual(told_by(Analysis(Program.read('kinds k def f() { raise k }')), 'f'), {(0, 'k'): [(((1,), (0,)), ())]})
        self.assertEqual(told_by(Analysis(Program.read('def f() { }')), 'f'), {None: [(((1,), (0,)), ())]})
        self.assertEqual(told_by(Analysis(Program.read('kinds k def f() { try { return 5 } finally { raise k } }')), 'f'),
                         {(2, 'k'): [(((1,), (0,)), ())]})

    def test_no_end(self):
        head = 'globals a kinds k '
        for text in ('def f() { f() }', 'def f() { g() } def g() { f() }', 'def f() { a = a + 1 f() risk k } ',
                     'def f() { while { } if { f() } else { f() } }', 'def f() { with f(), g() { } } def g() { }',
                     'def f() { try { f() raise k } except k { a = 1 } finally { a = 2 } }'):
            self.assertEqual(self.counts(head + text), {})
        self.assertEqual(self.counts(head + 'def f() { with g(), f() { } } def g() { raise k }'), {(0, 'k'): 1})
        self.assertEqual(self.counts(head + 'def f() { try { f() } finally { raise k } } '), {})

    def test_ends_that_no_run_has(self):
        self.assertEqual(self.counts('kinds k l def f() { if { raise k } else { raise l } risk k }'), {(1, 'k'): 1, (2, 'l'): 1})
        self.assertEqual(self.counts('kinds k l def f() { g() risk l } def g() { raise k }'), {(0, 'k'): 1})
        self.assertEqual(self.counts('kinds k l def f() { try { risk k, l } except k { } }'), {None: 1, (1, 'l'): 1})
        self.assertEqual(self.counts('kinds k l def f() { try { risk k } except k, l { raise l } except l { } }'), {None: 1, (2, 'l'): 1})
        self.assertEqual(self.counts('kinds k l def f() { return 1 risk k }'), {None: 1})
        self.assertEqual(self.counts('kinds k l def f() { with g(), g() swallow l { risk k, l } } def g() { }'),
                         {None: 1, (1, 'k'): 1})
        self.assertEqual(self.counts('kinds k l def f() { with g(), h() swallow l { risk k, l } } def g() { } def h() { raise l }'),
                         {(0, 'l'): 1})

    def test_inputs(self):
        found = self.check_all('globals a b kinds k def f(x) { a = ? b = 2*a + x risk k a = ? }')
        self.assertEqual({ending: len(runs) for ending, runs in found[()].items()}, {(2, 'k'): 2, None: 3})
        self.check_all('globals a b kinds k def f() { while { a = ? b = b + a risk k } return b }')

    def test_none_too_many(self):
        runs = Analysis(Program.read('kinds k def f() { if { risk k } while { } }')).returns('f')
        self.assertEqual(len(runs), 1)
        self.assertIn(runs[0][1], ((0, 0), (1, 0, 0)))


class TestLoops(Checked):
    def test_later_rounds_bring_something_new(self):
        # Each round moves the values on by one cell.
        text = 'globals a b c d kinds k def f(x) { while { d = c c = b b = a a = x } risk k }'
        self.assertEqual(self.counts(text), {None: 5, (5, 'k'): 5})
        self.check_all(text)
        self.check_all('globals a b c kinds k def f(x) { while { c = c + b b = b + a a = a + x } risk k return c }')

    def test_many_statements(self):
        # Eight values move on in a ring, with fifty statements in each round.
        shift = 'w = d d = c c = b b = a a = v v = u u = p p = w + p '
        text = 'globals a b c d kinds k def f(&p) { u = 1 while { ' + 'a = a ' * 42 + shift + '} risk k return u }'
        told = self.check(Program.read(text), 'f', ('p',), [[1] * many for many in range(60)])
        self.assertEqual({ending: len(runs) for ending, runs in told.items()}, {None: 8, (52, 'k'): 8})

    def test_growing(self):
        text = 'globals a kinds k def f() { while { a = 2*a } risk k }'
        self.assertEqual(self.counts(text), {None: 2, (2, 'k'): 2})
        self.check_all(text, longest=40)
        self.check_all('globals a b kinds k def f() { while { a = 2*a while { b = a + b } } risk k }')

    def test_throws_only_in_a_later_round(self):
        self.check_all('globals a kinds k l def f() { while { try { while { a = a + 1 risk k } } except k { a = 2*a risk l } } }')
        self.check_all('globals a b kinds k def f() { u = 1 while { b = b + u u = u + 1 if { a = b risk k } } }')

    def test_loop_in_layers(self):
        self.check_all('globals a b kinds k l def f(x) { while { undo a { with g(x), h(a) swallow l { a = a + b risk k, l } } } } '
                       'def g(x) { b = b + x risk k } def h(x) { a = a + x risk l }')
        self.check_all('globals a b kinds k l def f() { while { try { a = a + 1 while { b = b + a risk k, l } } except k { b = b - 1 } '
                       'finally { if { a = a + b risk l } } } return a }')
        self.check_all('globals a kinds k def f(&p) { while { undo p, a { p = p + a risk k a = p try { raise k } except k { } } } }')

    def test_return_in_a_loop(self):
        self.check_all('globals a b kinds k def f() { while { a = a + b try { if { return a } } finally { b = b + 1 risk k } } return b }')
        self.check_all('globals a kinds k def f() { while { try { try { return a } finally { risk k } } except k { a = a + 1 } } }')


class TestCalls(Checked):
    def test_recursion(self):
        self.check_all('globals a b kinds k def f() { a = a + b if { f() } b = b + 1 risk k }')
        self.check_all('globals a kinds k def f(x) { if { u = f(x + a) return u + 1 } risk k return x }')
        self.check_all('globals a b c kinds k def f(x) { if { a = a + x f(a) f(b) } else { risk k b = b + c } }', longest=40)
        self.check_all('globals a kinds k l def f() { try { if { f() } risk k a = a + 1 } except k { a = 2*a risk l } }')

    def test_mutual_recursion(self):
        self.check_all('globals a b kinds k def f(x) { a = a + x if { u = g(a) b = b + u } risk k return a } '
                       'def g(x) { b = b - x if { u = f(b) return u } return x }')

    def test_places_in_recursion(self):
        self.check_all('globals a kinds k def f(&p, x) { p = p + x if { f(&p, p) } risk k }')
        self.check_all('globals a b kinds k def f(&p, &q) { p = p + 1 if { f(&q, &p) } q = q + p risk k }')
        self.check_all('globals a kinds k def f(&p) { u = p if { f(&u) } else { f2() } p = p + u risk k } def f2() { }')

    def test_other_cases(self):
        # f is called with p and q in one cell, and with globals, by calls of itself only.
        self.check_all('globals a b kinds k def f(&p, &q) { p = p + 2*q if { f(&p, &p) } else { if { f(&a, &q) } else { g(&q, &b) } } risk k } '
                       'def g(&p, &q) { q = q + 1 p = p + q if { f(&q, &p) } }', many=120)
        self.check_all('globals a kinds k def f(&p, x, &q) { q = q + x if { f(&x, p, &x) p = x } else { risk k } a = a + 1 }')

    def test_throws_of_calls(self):
        found = self.check_all('globals a kinds k l def f() { g(1) g(2) try { g(3) } except k { g(4) } } def g(x) { a = a + x risk k, l }')
        self.assertEqual(set(found[()]), {None, (0, 'k'), (0, 'l'), (1, 'k'), (1, 'l'), (3, 'l'), (4, 'k'), (4, 'l')})

    def test_results(self):
        self.check_all('globals a kinds k def f() { a = g(a) u = g(2*a) a = u + 1 g(0) return u } def g(x) { if { return x } risk k return 1 }')

    def test_throws_of_recursion(self):
        text = 'globals a kinds k def f() { a = a + 1 if { f() } else { raise k } }'
        self.assertEqual(self.counts(text), {(2, 'k'): 2, (3, 'k'): 1})
        self.check_all(text)

    def test_deep_recursion(self):
        self.check_all('globals a kinds k def f() { g() g() } def g() { h() h() } def h() { i() i() } def i() { a = a + 1 risk k }')
        text = 'globals a b c d kinds k def f(&p, &q) { u = p p = q q = d d = c c = b b = a a = u + 1 if { f(&q, &p) } else { risk k } b = b + d }'
        self.check_all(text, many=60)


class TestFewest(Checked):
    """The runs that are told have the fewest statements, and then the fewest active calls."""

    def effort(self, program, name, case, choices):
        oracle = Oracle(program.tree())
        oracle.run(name, case, (0,) * size_of(program, name, case), choices)
        return oracle.steps, oracle.deepest

    def check_fewest(self, program, name, case, most):
        told = told_by(Analysis(program), name, case)
        if not all(len(choices) <= most for runs in told.values() for _, choices in runs):
            return 0
        runs = {}
        for choices, _ in Machine(program).runs(name, case, (0,) * size_of(program, name, case), most):
            ending, matrix, _ = traced(program, name, case, choices)
            runs.setdefault(ending, []).append((self.effort(program, name, case, choices), flat(matrix)))
        for ending, found in told.items():
            wanted = []
            rows = []
            for effort, row in sorted(runs[ending]):
                if len(reduced(rows + [row], len(row))) > len(rows):
                    rows.append(row)
                    wanted.append(effort)
            self.assertEqual([self.effort(program, name, case, choices) for _, choices in found], wanted,
                             (program.tree(), name, case, ending))
        return len(told)

    def test_by_hand(self):
        for text, most in (
                ('globals a kinds k def f() { if { a = 1 a = 1 } else { a = 1 } risk k }', 3),
                ('globals a b kinds k def f() { while { a = a + b b = b + 1 } risk k }', 6),
                ('globals a kinds k def f(x) { if { g() a = x } else { a = x a = x } try { a = a + 1 risk k } finally { } } def g() { }', 4),
                ('globals a kinds k def f(x) { if { a = x a = x } else { g() a = x } } def g() { }', 4),
                ('globals a kinds k def f(x) { if { g() } else { h() } risk k } def g() { g2() } def g2() { a = 1 } def h() { a = 1 a = 1 }', 4),
                ('globals a kinds k def f(x) { if { g(x) } else { h() } risk k } def g(y) { if { g(y) } else { a = y } } def h() { i() } '
                 'def i() { j() } def j() { a = 2 }', 6),
                ('globals a kinds k def f(x) { if { undo a { a = x raise k } } else { a = ? if { raise k } else { with g(), g() { a = 1 } } } } '
                 'def g() { a = a + 1 }', 6),
                ('globals a kinds k def f(x) { if { undo a { a = x return x } } else { try { raise k } except k { return x } } }', 6)):
            program = Program.read(text)
            self.assertGreater(self.check_fewest(program, 'f', (), most), 0)

    def test_each_statement_counts(self):
        # All of these assign x to a; with them stands how many statements they begin.
        plain = (('a = x', 1), ('a = ? a = x', 2), ('g(x)', 2), ('u = g(x)', 2), ('undo b { a = x }', 2), ('while { } a = x', 2),
                 ('try { a = x } finally { }', 2), ('try { a = x } except k { }', 2), ('try { raise k } except k { a = x }', 3),
                 ('try { } finally { a = x }', 2), ('with h(), g(x) { }', 2), ('with g(x), h() { }', 2),
                 ('with h(), g(x) swallow k { raise k }', 3), ('if { a = x } else { a = x }', 2), ('risk k a = x', 2),
                 ('try { t(x) } except k { }', 4), ('with h(), h() swallow k { t(x) }', 4), ('try { i() } finally { a = x }', 4))
        returns = (('a = x return 0', 2), ('undo b { a = x return 0 }', 3), ('try { return 0 } finally { a = x }', 3),
                   ('with h(), g(x) { return 0 }', 3), ('try { try { return 0 } finally { raise k } } except k { a = x return 0 }', 6))
        throws = (('a = x raise k', 2), ('undo b { a = x raise k }', 3), ('try { raise k } finally { a = x }', 3),
                  ('with h(), g(x) { raise k }', 3), ('t(x)', 3), ('with h(), t(x) { }', 3), ('with t(x), h() { }', 3),
                  ('undo b { t(x) }', 4), ('try { raise k } except k { a = x raise k }', 4), ('a = x risk k', 2))
        more = ' } } def g(y) { a = y } def h() { } def i() { if { } } def t(y) { a = y raise k } '
        for constructs, end in ((plain, ''), (returns, 'return 0'), (throws, 'raise k')):
            for construct, many in constructs:
                others = many - len(end.split()[:1])
                longer = 'a = x ' * (others + 1) + end
                shorter = 'a = x ' * (others - 1) + end
                for first, second in ((construct, longer), (longer, construct), (construct, shorter), (shorter, construct)):
                    text = 'globals a b kinds k def f(x) { m(x) } def m(x) { if { ' + first + ' } else { ' + second + more
                    self.assertGreater(self.check_fewest(Program.read(text), 'f', (), 5), 0)

    def test_random(self):
        many = 0
        for start in range(5000, 5400):
            sample = Sample(start, functions=3, most=3, depth=2)
            for name in sample.names:
                many += self.check_fewest(sample.program, name, sample.case(name), 5)
        self.assertGreater(many, 500)

    def test_runs_stay_within_the_limits_of_the_machine(self):
        # Each return begins more than 4000 statements, so no run of the machine returns.
        text = 'globals a kinds k def f() { if { raise k } ' + 'g() ' * 8 + '} '
        for one, other in ('gh', 'hi', 'ij'):
            text += 'def ' + one + '() { ' + (other + '() ') * 8 + '} '
        self.assertEqual(self.counts(text + 'def j() { a = a + 1 ' + 'a = a ' * 7 + '}'), {(1, 'k'): 1})


class TestRandom(Checked):
    def check_samples(self, starts, **wanted):
        largest = 0
        for start in starts:
            sample = Sample(start, **wanted)
            for name in sample.names:
                case = sample.case(name)
                entry = (0,) * size_of(sample.program, name, case)
                found = Machine(sample.program).runs(name, case, entry, 4, (0, 1, -3))
                lists = [choices for (choices, _), _ in zip(found, range(40))]
                lists += [sample.choices(60) for _ in range(10)]
                told = self.check(sample.program, name, case, lists)
                largest = max([largest] + [len(runs) for runs in told.values()])
        return largest

    def test_small(self):
        self.check_samples(range(250))

    def test_recursive(self):
        words = ('set', 'set', 'set', 'set', 'call', 'call', 'if', 'while', 'while', 'risk', 'try', 'undo', 'with', 'return', 'input')
        self.assertGreater(self.check_samples(range(1000, 1100), functions=2, most=5, depth=3, words=words), 4)

    def test_layers(self):
        words = ('set', 'set', 'set', 'call', 'if', 'while', 'risk', 'try', 'undo', 'with')
        self.check_samples(range(4000, 4100), functions=2, most=4, depth=5, words=words)


class TestAnswers(unittest.TestCase):
    TEXT = ('globals a b kinds k l def f(&p, x) { p = p + x while { a = a + b u = g(a) b = ? } risk k, l if { f(&a, u) } return u } '
            'def g(x) { if { f(&b, x) } risk l return x + a } def h() { with f(&a, 1), f(&b, 2) swallow l { u = g(u) } }')

    def test_same_whatever_was_asked_before(self):
        program = Program.read(self.TEXT)
        asked = [(name, case) for name in program.functions for case in program.cases(name)]
        alone = {one: (Analysis(program).returns(*one), Analysis(program).leaves(*one)) for one in asked}
        chosen = random.Random(8)
        for _ in range(4):
            analysis = Analysis(program)
            for _ in range(2):
                chosen.shuffle(asked)
                for one in asked:
                    if chosen.random() < 0.5:
                        self.assertEqual(analysis.leaves(*one), alone[one][1])
                    self.assertEqual(analysis.returns(*one), alone[one][0])
        for start in range(40):
            sample = Sample(start, functions=3)
            analysis = Analysis(sample.program)
            for name in sample.names[::-1]:
                for case in sample.program.cases(name):
                    self.assertEqual(told_by(analysis, name, case), told_by(Analysis(sample.program), name, case))

    def test_none_is_the_case_with_cells_of_its_own(self):
        program = Program.read('globals a kinds k def f(&p, &q) { p = p + q q = a risk k }')
        analysis = Analysis(program)
        self.assertEqual(analysis.returns('f'), analysis.returns('f', ('p', 'q')))
        self.assertEqual(analysis.leaves('f', None), analysis.leaves('f', case=('p', 'q')))
        self.assertEqual(analysis.returns(name='f', case=('a', 'a'))[0][0], ((1, 0), (0, 2), (0, 0)))
        self.assertNotEqual(analysis.returns('f'), analysis.returns('f', ('p', 'p')))

    def test_new_lists(self):
        analysis = Analysis(program=Program.read(self.TEXT))
        for name in ('f', 'g', 'h'):
            returns = list(analysis.returns(name))
            leaves = {ending: list(runs) for ending, runs in analysis.leaves(name).items()}
            analysis.returns(name).clear()
            analysis.leaves(name).clear()
            for runs in analysis.leaves(name).values():
                runs.clear()
            self.assertEqual(analysis.returns(name), returns)
            self.assertEqual(analysis.leaves(name), leaves)
            for runs in [returns, *leaves.values()]:
                self.assertIs(type(runs), list)
                for matrix, choices in runs:
                    self.assertIs(type(matrix), tuple)
                    self.assertEqual({type(row) for row in matrix}, {tuple})
                    self.assertEqual({type(number) for row in matrix for number in row}, {int})

    def test_errors(self):
        analysis = Analysis(Program.read(self.TEXT))
        for call in (analysis.returns, analysis.leaves):
            check_function_and_case(self, call)
        self.assertEqual(len(analysis.leaves('h', ())), len(analysis.leaves('h')))

    def test_stands_in_the_class(self):
        for name in ('returns', 'leaves'):
            self.assertIn(name, vars(Analysis))
