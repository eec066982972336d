"""Orders beside all permutations."""

import itertools
import unittest

from allornothing.errors import InvalidCase, InvalidOrder, TooLarge
from allornothing.logs import all_or_nothing, forced, wrapped
from allornothing.orders import cheapest, needs, orders, reordered, repaired
from allornothing.programs import Draft, Program
from allornothing.rows import reduced
from allornothing.summaries import Analysis
from allornothing.texts import parse
from samples import Sample
from test_logs import MIXED, drafted
from test_summaries import flat
from wrong import check_function_and_case

EXAMPLE = 'globals a b kinds k def f(x) { if { risk k } a = a - x u = a b = b + u } def g() { a = a - 1 f(a) }'
HELP = ' def put(&r) { r = 1 } def see(x) { } def seeb() { u = b } def putb() { b = 1 }'


def permitted(program, name, case):
    """All permutations in which the items that keep their order do so."""
    pairs = needs(program, name, case)
    found = itertools.permutations(range(len(program[name][2])))
    return [order for order in found if all(order.index(one) < order.index(other) for one, other in pairs)]


class Checked(unittest.TestCase):
    def check_cheapest(self, program, name, case):
        """Check cheapest against all orders, and return how many there are."""
        found = list(orders(program, name, case))
        self.assertEqual(found, permitted(program, name, case))
        cells = program.cells(name, case)
        best = []
        for order in found:
            logged = forced(drafted(program, name, (), order), name, case)
            best.append((len(logged), [cells.index(cell) for cell in logged], order, logged))
        _, _, order, logged = min(best)
        self.assertEqual(cheapest(program, name, case), (logged, order), (program.tree(), name, case))
        return len(found)

    def check_repaired(self, program, name, case):
        cells, order = cheapest(program, name, case)
        try:
            other = repaired(program, name, case)
        except TooLarge as error:
            self.assertIn(error.word, ('statements', 'nesting'))
            other = drafted(program, name, cells, order)
        else:
            self.assertEqual(other.tree(), drafted(program, name, cells, order).tree())
            self.assertIs(type(other), Program)
        self.assertTrue(all_or_nothing(other, name, case))
        if name not in program.reached(name):
            self.assertEqual(self.span(other, name, case), self.span(program, name, case))
        return other

    def span(self, program, name, case):
        rows = [flat(matrix) for matrix, _ in Analysis(program).returns(name, case)]
        return reduced(rows, len(rows[0])) if rows else []


class TestNeeds(Checked):
    def pairs(self, body, case=None, params='&p, &q, x'):
        program = Program.read('globals a b kinds k l def f(' + params + ') { ' + body + ' }' + HELP)
        found = needs(program, 'f', case)
        self.assertIs(type(found), list)
        self.assertEqual(found, sorted(found))
        return found

    def both(self, one, other, case=None):
        """Whether two items keep their order, told in both orders."""
        told = []
        for body in (one + ' ' + other, other + ' ' + one):
            # The third item tells that u and v are locals.
            told.append((0, 1) in self.pairs(body + ' if { u = 0 v = 0 }', case))
        self.assertEqual(told[0], told[1])
        return told[0]

    def test_example(self):
        program = Program.read(EXAMPLE)
        self.assertEqual(needs(program, 'f'), [(1, 2), (2, 3)])
        self.assertEqual(cheapest(program, 'f'), ((), (0, 1, 2, 3)))
        self.assertEqual(cheapest(program, 'g'), (('a',), (0, 1)))
        for name in 'fg':
            self.check_cheapest(program, name, ())
            self.check_repaired(program, name, ())

    def test_cells(self):
        for one, other, wanted in (('a = 1', 'a = 2', True), ('a = 1', 'b = a', True), ('a = b', 'b = 1', True), ('a = 1', 'b = 1', False),
                                   ('u = a', 'v = a', False), ('u = 1', 'v = u', True), ('x = 1', 'u = x', True), ('u = x', 'v = x', False),
                                   ('p = 1', 'u = p', True), ('p = 1', 'q = 1', False), ('p = 1', 'a = 1', False), ('u = 1', 'u = 2', True),
                                   ('if { a = 1 } else { b = 1 }', 'u = b', True), ('while { if { a = x } }', 'x = 1', True),
                                   ('try { } finally { a = 1 }', 'u = a', True), ('try { } except k { a = 1 }', 'u = a', True),
                                   ('undo a { }', 'u = a', True), ('undo a { }', 'a = 1', True), ('undo a { }', 'undo a { }', True),
                                   ('undo a { }', 'u = b', False), ('undo a, b { }', 'undo b { }', True), ('undo u { }', 'u = 1', True),
                                   ('undo p { }', 'p = 1', True), ('if { undo b { } }', 'v = b', True)):
            self.assertEqual(self.both(one, other), wanted, (one, other))

    def test_cells_of_a_case(self):
        self.assertTrue(self.both('p = 1', 'q = 1', ('p', 'p')))
        self.assertTrue(self.both('p = 1', 'u = a', ('a', 'q')))
        self.assertFalse(self.both('p = 1', 'q = 1', ('a', 'q')))
        self.assertFalse(self.both('p = 1', 'q = 1', ('a', 'b')))
        self.assertTrue(self.both('p = 1', 'q = 1', ('b', 'b')))
        self.assertTrue(self.both('put(&p)', 'u = b', ('b', 'q')))

    def test_calls(self):
        for one, other, wanted in (('put(&a)', 'u = a', True), ('put(&a)', 'put(&b)', False), ('put(&a)', 'put(&a)', True), ('put(&u)', 'v = u', True),
                                   ('see(a)', 'a = 1', True), ('see(a)', 'u = a', False), ('seeb()', 'b = 1', True), ('seeb()', 'u = b', False),
                                   ('putb()', 'u = b', True), ('putb()', 'seeb()', True), ('putb()', 'u = a', False), ('u = seeb()', 'v = u', True),
                                   ('put(&u)', 'put(&v)', False), ('with putb(), see(u) { }', 'v = b', True), ('with see(1), putb() { }', 'v = b', True),
                                   ('with see(u), see(1) { }', 'u = 1', True), ('with see(1), put(&u) { }', 'v = u', True),
                                   ('seeb()', 'seeb()', False), ('see(p)', 'q = 1', False), ('see(2*p - x)', 'x = 1', True)):
            self.assertEqual(self.both(one, other), wanted, (one, other))
        program = Program.read('globals a b kinds k def f() { far() u = b far() v = a a = 2 } def far() { putb() } def putb() { b = 1 }')
        self.assertEqual(needs(program, 'f'), [(0, 1), (0, 2), (1, 2), (3, 4)])

    def test_names_in_called_functions(self):
        # Their parameters and locals are other variables than those of the function.
        program = Program.read('globals a b def f(p) { g(1) u = 1 p = 2 } def g(p) { p = 1 u = p b = u }')
        self.assertEqual(needs(program, 'f'), [])

    def test_throws(self):
        body = 'risk k if { while { raise l } } throw() u = 1 try { risk k } except k { } v = 2 with see(0), late() { } see(0)'
        program = Program.read('globals a b kinds k l def f() { ' + body + ' } def see(x) { } def throw() { risk k } def late() { throw() }')
        thrown = (0, 1, 2, 4, 6)
        self.assertEqual(needs(program, 'f'), list(itertools.combinations(thrown, 2)))

    def test_inputs(self):
        program = Program.read('globals a b def f() { a = ? if { u = ? } late() v = 1 with ask(), see() { } see() } def see() { } '
                               'def ask() { w = ? } def late() { ask() }')
        self.assertEqual(needs(program, 'f'), list(itertools.combinations((0, 1, 2, 4), 2)))

    def test_returns(self):
        program = Program.read('globals a b def f() { a = 1 if { while { return 2 } } b = 1 g() u = 1 } def g() { return 3 }')
        self.assertEqual(needs(program, 'f'), [(0, 1), (1, 2), (1, 3), (1, 4)])

    def test_what_never_ends(self):
        for item, wanted in (('raise k', True), ('if { raise k } else { raise l }', True), ('if { raise k }', False), ('never()', True), ('f()', True),
                             ('while { raise k }', False), ('try { raise k } except l { }', True), ('try { raise k } except k { }', False),
                             ('try { raise k } except k { raise l } finally { a = 1 }', True), ('try { } finally { raise k }', True),
                             ('try { never() } except k, l { }', True), ('undo a { raise k }', True), ('undo a { }', False),
                             ('with see(), see() swallow k { raise k }', False), ('with see(), see() swallow l { raise k }', True),
                             ('with see(), throw() swallow k { }', True), ('with throw(), see() swallow k { }', True), ('throw()', True),
                             ('with see(), never() { raise k }', True), ('with see(), see() { never() }', True), ('with see(), see() { }', False),
                             ('try { throw() } except k { }', False), ('some()', False), ('while { never() }', False), ('if { never() }', False),
                             ('try { risk k raise l } except l { never() } except k { }', False), ('if { f() } else { raise k }', True),
                             ('try { never() } finally { a = 1 }', True), ('try { try { never() } finally { raise k } } except k { }', True),
                             ('try { with see(), throw() { never() } } except k { }', True), ('while { }', False)):
            text = ('globals a b kinds k l def f() { b = 1 ' + item + ' if { } } def never() { if { never() } else { also() } } def also() { never() } '
                    'def see() { } def throw() { raise k } def some() { if { some() } }')
            found = needs(Program.read(text), 'f')
            self.assertEqual((0, 1) in found and (1, 2) in found, wanted, item)

    def test_ends_are_those_of_the_runs(self):
        # An item by itself is a function whose locals are parameters.
        seen = {False: 0, True: 0}
        for start in range(150):
            sample = Sample(start, functions=3, words=MIXED + ('raise', 'call', 'try', 'if'))
            program = sample.program
            for name in sample.names:
                own = [one for one in program.variables(name) if one not in program.globals and one not in program.places(name)]
                params = tuple(one for one in program[name][1] if one[1]) + tuple((one, False) for one in own)
                for number, item in enumerate(program[name][2]):
                    inner = Draft(program.tree()[:3] + (program.tree()[3] + (('+', params, (item,)),),))
                    if 'return' in repr(item):
                        continue
                    ends = bool(Analysis(inner).returns('+'))
                    longer = Draft(program.tree()[:3] + (tuple((one, held, block if one != name else (item, ('if', (), ())) + block)
                                                              for one, held, block in program.tree()[3]),))
                    if name in program.reached(name):
                        continue
                    self.assertEqual((0, 1) in needs(longer, name), not ends, (program.tree(), name, number))
                    seen[ends] += 1
        self.assertGreater(min(seen.values()), 20)


class TestOrders(Checked):
    def test_all(self):
        program = Program.read(EXAMPLE)
        self.assertEqual(list(orders(program, 'f')), [(0, 1, 2, 3), (1, 0, 2, 3), (1, 2, 0, 3), (1, 2, 3, 0)])
        self.assertEqual(list(orders(program, 'g')), [(0, 1)])
        self.assertEqual(list(orders(Program.read('def f() { }'), 'f')), [()])
        free = Program.read('globals a b c d def f(&p) { a = 1 b = 1 c = 1 d = 1 p = 1 u = 1 }')
        self.assertEqual(list(orders(free, 'f')), list(itertools.permutations(range(6))))
        self.assertEqual(list(orders(name='f', program=free, case=('a',))), permitted(free, 'f', ('a',)))

    def test_each_before_later_ones_are_looked_for(self):
        program = Program.read('globals a b c d def f() { ' + 'if { } ' * 60 + '}')
        found = orders(program, 'f')
        self.assertEqual(next(found), tuple(range(60)))
        self.assertEqual(next(found), tuple(range(58)) + (59, 58))
        self.assertEqual(needs(program, 'f'), [])

    def test_reordered(self):
        program = Program.read(EXAMPLE)
        self.assertEqual(reordered(program, 'f', (1, 2, 0, 3)).tree(), parse(EXAMPLE.replace('if { risk k } a = a - x u = a', 'a = a - x u = a if { risk k }')))
        self.assertEqual(reordered(program, 'f', (0, 1, 2, 3)), program)
        self.assertEqual(reordered(case=(), order=(0, 1), name='g', program=program), program)
        for order in (None, [0, 1, 2, 3], (0, 1, 2), (0, 1, 2, 3, 4), (0, 2, 1, 3), (3, 2, 1, 0), (0, 1, 2, 2), (False, True, 2, 3), (1, 2, 3, 4),
                      (-1, 0, 1, 2), (0, 1, 2, None), (0, 1, 2, '3'), '0123', 4, True, {}, (), (0, 1, 2, 3.0), ((0, 1, 2, 3),), (0, 1, 2, [3])):
            with self.assertRaises(InvalidOrder) as caught:
                reordered(program, 'f', order)
            self.assertIs(caught.exception.value, order)
        self.assertEqual(reordered(Program.read('def f() { }'), 'f', ()).tree(), parse('def f() { }'))
        two = Program.read('globals a def f(&p) { a = 1 p = 2 }')
        self.assertEqual(reordered(two, 'f', (1, 0)).tree(), parse('globals a def f(&p) { p = 2 a = 1 }'))
        with self.assertRaises(InvalidOrder):
            reordered(two, 'f', (1, 0), ('a',))
        # The locals come in another order then.
        own = Program.read('def f() { u = 1 v = 1 }')
        self.assertEqual(reordered(own, 'f', (1, 0)).variables('f'), ['v', 'u'])

    def test_errors(self):
        program = Program.read(EXAMPLE.replace('(x)', '(&p, x)').replace('f(a)', 'f(&a, a)'))
        for call in (needs, lambda *args: list(orders(*args)), lambda program, name, case: reordered(program, name, None, case), cheapest, repaired):
            check_function_and_case(self, lambda name, case: call(program, name, case))
        many = Program.read('globals a kinds k def f(&p) { ' + 'if { } ' * 9 + '}')
        for call in (cheapest, repaired):
            with self.assertRaises(TooLarge) as caught:
                call(many, 'f')
            self.assertEqual(caught.exception.word, 'items')
            with self.assertRaises(InvalidCase):
                call(many, 'f', ())
        self.assertEqual(len(needs(Program.read('globals a def f() { ' + 'a = a ' * 9 + '}'), 'f')), 36)


class TestCheapest(Checked):
    def check_text(self, text, name='f'):
        program = Program.read(text)
        many = 0
        for case in program.cases(name):
            many = max(many, self.check_cheapest(program, name, case))
            self.check_repaired(program, name, case)
        return many

    def test_by_hand(self):
        program = Program.read('globals a b kinds k def f() { a = 1 risk k b = 2 }')
        self.assertEqual(cheapest(program, 'f'), ((), (1, 0, 2)))
        self.assertEqual(repaired(program, 'f').tree(), parse('globals a b kinds k def f() { risk k a = 1 b = 2 }'))
        program = Program.read('globals a b kinds k def f() { a = 1 b = 2 f() risk k }')
        self.assertEqual(cheapest(case=None, name='f', program=program), ((), (0, 1, 2, 3)))
        program = Program.read('globals a b c kinds k def f() { b = 1 g(a, b) c = 1 a = 2 } def g(x, y) { risk k }')
        self.assertEqual(cheapest(program, 'f'), (('b',), (0, 1, 2, 3)))
        self.assertEqual(repaired(program, 'f').tree()[3][0], parse('def f() { undo b { b = 1 g(a, b) c = 1 a = 2 } }')[3][0])
        for text in ('globals a b c kinds k def f(&p, x) { a = a + 1 p = p - a if { risk k } b = x c = 1 risk k }',
                     'globals a b kinds k l def f(&p, &q) { p = 1 q = 2 risk k a = a + 1 risk l b = b - 1 }',
                     'globals a b kinds k def f() { u = ? a = a + u b = b + 1 v = ? while { risk k } b = b + v }',
                     'globals a b c kinds k def f() { a = 1 if { return 2 } risk k b = 3 c = 1 raise k c = 2 }',
                     'globals a kinds k def f() { try { f() } except k { a = a + 1 } u = 1 a = a + u risk k }',
                     'globals a b kinds k def f() { try { if { f() } } except k { } b = b + 1 a = a + 1 risk k a = a - 1 }', 'def f() { }'):
            self.check_text(text)

    def test_eight_items(self):
        text = 'globals a b c d kinds k def f(&p, &q) { a = 1 b = 1 c = 1 d = 1 p = 1 q = 1 u = 1 risk k }'
        program = Program.read(text)
        self.assertEqual(cheapest(program, 'f'), ((), (6, 7, 0, 1, 2, 3, 4, 5)))
        self.assertEqual(cheapest(program, 'f', ('p', 'p')), ((), (6, 7, 0, 1, 2, 3, 4, 5)))
        two = Program.read(text.replace('risk k', 'g(p, c)') + ' def g(x, y) { risk k }')
        self.assertEqual(cheapest(two, 'f'), (('c', 'p'), (2, 4, 6, 7, 0, 1, 3, 5)))

    def test_first_order(self):
        program = Program.read('globals a b kinds k def f() { u = 1 a = 1 v = 1 risk k b = 1 }')
        self.assertEqual(cheapest(program, 'f'), ((), (0, 2, 3, 1, 4)))
        self.check_text('globals a b kinds k def f() { u = 1 a = 1 v = 1 risk k b = 1 }')

    def test_random(self):
        largest = 0
        for start in range(120):
            sample = Sample(start, functions=3, most=6, depth=2, words=MIXED + ('set',) * 4)
            for name in sample.names:
                program = sample.program
                if len(program[name][2]) > 6 or (name in program.reached(name) and program.places(name)):
                    continue
                case = sample.case(name)
                many = self.check_cheapest(program, name, case)
                largest = max(largest, many)
                self.check_repaired(program, name, case)
                if name not in program.reached(name):
                    for order in list(orders(program, name, case))[:8]:
                        self.assertEqual(self.span(reordered(program, name, order, case), name, case), self.span(program, name, case))
        self.assertGreater(largest, 20)

    def test_limits(self):
        text = 'globals a kinds k def f() { a = 1 risk k g() } def g() { ' + 'a = a ' * 57 + '}'
        program = Program.read(text.replace('risk k', 'if { if { risk k } }').replace('a = a ' * 57, 'a = a ' * 55))
        self.assertEqual(cheapest(program, 'f'), ((), (1, 0, 2)))
        self.check_repaired(program, 'f', ())
        full = Program.read('globals a kinds k def f() { a = 1 g(a) } def g(x) { risk k ' + 'a = a ' * 57 + '}')
        self.assertEqual(cheapest(full, 'f'), (('a',), (0, 1)))
        with self.assertRaises(TooLarge) as caught:
            repaired(full, 'f')
        self.assertEqual(caught.exception.word, 'statements')
        deep = Program.read('globals a kinds k def f() { if { if { if { if { if { a = 1 raise k } } } } } }')
        self.assertEqual(cheapest(deep, 'f'), (('a',), (0,)))
        with self.assertRaises(TooLarge) as caught:
            repaired(deep, 'f')
        self.assertEqual(caught.exception.word, 'nesting')
        self.assertTrue(all_or_nothing(wrapped(Program.read('globals a kinds k def f() { a = 1 raise k }'), 'f', ('a',)), 'f'))
