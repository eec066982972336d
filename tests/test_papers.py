"""Papers, and values that are none, beside a second check of them."""

import random
import unittest

from allornothing.machine import Machine
from allornothing.papers import is_paper, paper, told_verdicts
from allornothing.programs import Program
from allornothing.summaries import Analysis
from allornothing.verdicts import verdicts
from reader import is_right
from samples import Sample
from wrong import check_function_and_case

LOOP = 'globals a kinds k def f() { while { a = a + 1 } risk k }'
NAMED = 'globals a b kinds k l def f(&p, x) { while { u = g(&p, x) risk k } undo a, p { while { a = p p = b + x risk l } } return u } '
NAMED += 'def g(&r, y) { if { r = r + y v = g(&a, b) risk k } return y + a }'


def entry(name='f', case=(), pairs=(), loops=()):
    return name, case, tuple(pairs), tuple(loops)


class Checked(unittest.TestCase):
    def check_right(self, program, name, case, value):
        self.assertIs(is_paper(program, name, case, value), True)
        found = verdicts(Analysis(program), name, case)
        self.assertEqual(told_verdicts(program, name, case, value), found)

    def check_wrong(self, program, name, case, value):
        self.assertIs(is_paper(program, name, case, value), False)
        self.assertIsNone(told_verdicts(program, name, case, value))

    def check(self, program, name, case, value):
        """Check that both checks accept the same; return whether they do."""
        is_accepted = is_right(program, name, case, value)
        if is_accepted:
            self.check_right(program, name, case, value)
        else:
            self.check_wrong(program, name, case, value)
        return is_accepted


class TestPaper(Checked):
    def test_example(self):
        program = Program.read(LOOP)
        told = paper(program, 'f')
        less = (('f', (), (((2, 'k'), (0, 1)), ((None, None), (0, 0))), ()),)
        self.assertTrue(is_paper(program, 'f', (), told))
        self.assertFalse(is_paper(program, 'f', (), less))
        self.assertEqual(told_verdicts(program, 'f', (), told), {(2, 'k'): 'changed'})
        self.assertTrue(is_right(program, 'f', (), told))
        self.assertFalse(is_right(program, 'f', (), less))

    def test_form(self):
        program = Program.read(NAMED)
        told = paper(program, 'f', ('p',))
        self.assertEqual(told, paper(program, 'f'))
        self.assertEqual(told, paper(case=None, name='f', program=program))
        self.assertEqual({type(one) for one in told}, {tuple})
        self.assertEqual([one[:2] for one in told][0], ('f', ('p',)))
        self.assertEqual(len({one[:2] for one in told}), len(told))
        for name, case, pairs, loops in told:
            self.assertEqual([place for place, _ in loops], [0, 4] if name == 'f' else [])
            for _, matrices in loops:
                self.assertEqual({len(matrix[0]) for matrix in matrices}, {5})
        # Seven rows for 1, a, b, p, x, u and the result, and two for what the undo keeps.
        self.assertEqual([len(matrices[0]) for _, matrices in told[0][3]], [7, 9])

    def test_nothing_to_tell(self):
        for text in ('def f() { }', 'kinds k def f() { f() }', 'globals a def f() { while { f() } f() }', 'kinds k def f() { raise k }',
                     'globals a kinds k def f() { g() while { a = 1 } } def g() { raise k }', 'def f() { return 1 while { } }'):
            program = Program.read(text)
            self.check_right(program, 'f', (), paper(program, 'f'))
            self.assertTrue(is_right(program, 'f', (), paper(program, 'f')))
        never = Program.read('kinds k def f() { g() risk k } def g() { f() }')
        self.assertEqual(sorted(paper(never, 'f')), [('f', (), (), ()), ('g', (), (), ())])
        self.check_wrong(never, 'f', (), (('f', (), (), ()),))
        unreached = Program.read('globals a kinds k def f() { raise k while { g() } } def g() { }')
        self.check_right(unreached, 'f', (), (('f', (), (((0, 'k'), ()),), ()),))

    def test_random(self):
        many = 0
        for start in range(120):
            sample = Sample(start, functions=3)
            for name in sample.names:
                for case in sample.program.cases(name):
                    told = paper(sample.program, name, case)
                    self.check_right(sample.program, name, case, told)
                case = sample.case(name)
                told = paper(sample.program, name, case)
                self.assertTrue(is_right(sample.program, name, case, told))
                shuffled = list(told)
                sample.chosen.shuffle(shuffled)
                self.check_right(sample.program, name, case, tuple(shuffled))
                many += len(told) > 1
        self.assertGreater(many, 50)

    def test_layers(self):
        words = ('set', 'set', 'set', 'call', 'if', 'while', 'risk', 'try', 'undo', 'with', 'return')
        for start in range(4000, 4025):
            sample = Sample(start, functions=2, most=4, depth=5, words=words)
            for name in sample.names:
                case = sample.case(name)
                told = paper(sample.program, name, case)
                self.check_right(sample.program, name, case, told)
                self.assertTrue(is_right(sample.program, name, case, told))

    def test_a_return_that_a_throw_has_replaced(self):
        text = 'globals a kinds k def f() { try { try { return a } finally { risk k } } except k { while { a = a + 1 } } }'
        program = Program.read(text)
        told = paper(program, 'f')
        (place, matrices), = told[0][3]
        self.assertEqual(place, 4)
        self.assertEqual({matrix[2] for matrix in matrices}, {(0, 1)})
        self.check_right(program, 'f', (), told)
        without = tuple(matrix[:2] + ((0, 0),) for matrix in matrices)
        self.check_wrong(program, 'f', (), (told[0][:3] + (((place, without),),),))

    def test_errors(self):
        program = Program.read('globals a kinds k def f(&p) { while { p = p + 1 } risk k }')
        told = paper(program, 'f')
        for call in (lambda *args: paper(program, *args), lambda *args: is_paper(program, *args, told),
                     lambda *args: told_verdicts(program, *args, None)):
            check_function_and_case(self, call, none=call('f', ('p',)) == told)
        self.assertTrue(is_paper(value=told, case=('p',), name='f', program=program))
        self.assertEqual(told_verdicts(value=told, case=('p',), name='f', program=program), {(2, 'k'): 'changed'})
        self.assertFalse(is_paper(program, 'f', ('a',), told))
        found = told_verdicts(program, 'f', ('p',), told)
        found.clear()
        self.assertTrue(told_verdicts(program, 'f', ('p',), told))


class TestByHand(Checked):
    PAIRS = (((None, None), (0, 0)), ((None, None), (1, 0, 0)), ((2, 'k'), (0, 1)), ((2, 'k'), (1, 0, 1)))
    ONE = ((1, 0), (0, 1), (0, 0))
    OTHER = ((1, 0), (1, 1), (0, 0))

    def accepted(self, pairs=PAIRS, *matrices, loops=None):
        value = (('f', (), tuple(pairs), ((0, matrices),) if loops is None else loops),)
        return self.check(Program.read(LOOP), 'f', (), value)

    def test_pairs(self):
        one, other, third, last = self.PAIRS
        matrices = (self.ONE, self.OTHER)
        self.assertTrue(self.accepted(self.PAIRS, *matrices))
        self.assertTrue(self.accepted(self.PAIRS[::-1], *matrices))
        self.assertTrue(self.accepted(self.PAIRS * 2, *matrices))
        more = (((None, None), (1, 1, 0, 0)), ((2, 'k'), (1, 1, 1, 0, 1)))
        self.assertTrue(self.accepted((one, third) + more, *matrices))
        self.assertTrue(self.accepted(more + self.PAIRS, *matrices))
        self.assertTrue(self.accepted((((None, None), (3, 1, 2, -2)), ((None, None), (-1, 4, 2)), ((2, 'k'), (7, 0, 5)), third), *matrices))
        for at in range(4):
            self.assertFalse(self.accepted(self.PAIRS[:at] + self.PAIRS[at + 1:], *matrices))
        for pair in (((2, 'k'), (0, 0)), ((None, None), (0, 1)), ((1, 'k'), (0, 1)), ((2, 'l'), (0, 1)), ((0, 'k'), (0, 1)),
                     ((2, 'k'), (0, 1, 0)), ((2, 'k'), (0,)), ((2, 'k'), ()), ((None, None), (0,)), ((None, None), ()),
                     ((None, None), (0, 0, 0)), ((2, None), (0, 1)), ((None, 'k'), (0, 1)), ((True, 'k'), (0, 1)), ((2, 'k'), [0, 1]),
                     ((2, 'k'), (0, True)), ((2, 'k'), (False, 1)), ([2, 'k'], (0, 1)), [(2, 'k'), (0, 1)], ((2, 'k'), (0, 1), ()),
                     ((2, 'k'),), None, (None, (0, 0)), ((), (0, 0)), ((2, 'k'), None), ((2, 'k', 0), (0, 1)), ('k2', (0, 1)),
                     ((2, ['k']), (0, 1)), ((2.0, 'k'), (0, 1)), ((2, 'k'), (0, 1.0)), ((2, 'k'), (1, 0) * 4100 + (0, 1))):
            self.assertFalse(self.accepted(self.PAIRS + (pair,), *matrices), pair)

    def test_matrices(self):
        one, other = self.ONE, self.OTHER
        for right in ((one, other), (other, one), (one, other, one), (one, ((1, 0), (-7, 1), (0, 0))), (one, ((0, 0), (1, 0), (0, 0))),
                      (((2, 0), (0, 2), (0, 0)), ((0, 0), (5, 0), (0, 0))), (one, other, ((0, 0), (0, 0), (0, 0))), (one, other, ((1, 0), (0, 1), (1, 0))),
                      (one, None, other, 5, 'x', [], True, ((1, 0), (0, 1)), ((1, 0), (0, 1), (0, True)), ((1, 0), [0, 1], (0, 0))),
                      (one, other, ((1,), (0,), (0,)), ((1, 0, 0), (0, 1, 0), (0, 0, 0)), one + one[:1], {}, 0.5)):
            self.assertTrue(self.accepted(self.PAIRS, *right), right)
        for wrong in ((), (one,), (other,), (((0, 0), (0, 0), (0, 0)),), (one, ((1, 0), (0, 2), (0, 0))), (one, other, ((1, 0), (0, 2), (0, 0))),
                      (one, other, ((0, 0), (0, 1), (0, 0))), (one, list(other)), (one, other[:2]), (one, ((1, 0), (True, 1), (0, 0))),
                      (one, ((1, 0), (1, 1), [0, 0])), (one + one[:1], other + one[:1])):
            self.assertFalse(self.accepted(self.PAIRS, *wrong), wrong)

    def test_loops(self):
        right = (0, (self.ONE, self.OTHER))
        # What counts as nothing: loops elsewhere, and earlier ones of the same place.
        for loops in ((right,), ((1, ()), right, (2, (5,))), (right, (99, (None,)), (-1, ())), ((0, ()), right), ((0, (self.ONE,)), right),
                      ((0, (7,)), (0, (self.ONE,)), right, (1, (self.ONE,)))):
            self.assertTrue(self.accepted(loops=loops), loops)
        for loops in ((), (right, (0, ())), (right, (0, (self.ONE,))), ((1, right[1]),), ((2, right[1]),), [right], ([0, right[1]],),
                      ((0, list(right[1])),), ((False, right[1]),), (right[1],), ((0,),), (right + (0,),), None, 0, (right, None),
                      ((0.0, right[1]),), (('0', right[1]),), (right, (1, [])), (right, (True, ())), (right, (None, ()))):
            self.assertFalse(self.accepted(loops=loops), loops)

    def test_values_of_any_kind(self):
        program = Program.read(LOOP)
        told = paper(program, 'f')
        (name, case, pairs, loops), = told
        for value in (None, True, False, 0, 1, '', 'paper', (), [], {}, set(), 0.5, [told[0]], list(told), told[0], (told,), (None,), (5,), ('f',),
                      told + told, told + (None,), ((),), (told[0][:3],), (told[0] + ((),),), (list(told[0]),), {'f': told}, b'f', object(), print,
                      (('g', case, pairs, loops),), ((None, case, pairs, loops),), ((['f'], case, pairs, loops),), ((True, case, pairs, loops),),
                      (('f', None, pairs, loops),), (('f', [], pairs, loops),), (('f', ('a',), pairs, loops),), (('f', ((),), pairs, loops),),
                      (('f', case, list(pairs), loops),), (('f', case, None, loops),), (('f', case, pairs[0], loops),),
                      (({}, case, pairs, loops),), (('f', {}, pairs, loops),), (('f', ([],), pairs, loops),)):
            self.check_wrong(program, 'f', (), value)
            self.assertFalse(is_right(program, 'f', (), value))

    def test_entries(self):
        program = Program.read('globals a kinds k def f(&p) { if { f(&a) } else { g(p) } risk k } def g(x) { if { raise k } a = a + x } def h() { f(&a) }')
        told = paper(program, 'f')
        self.assertEqual(sorted(one[:2] for one in told), [('f', ('a',)), ('f', ('p',)), ('g', ())])
        self.check_right(program, 'f', ('p',), told)
        self.check_right(program, 'f', ('a',), told)
        self.check_right(program, 'g', (), told)
        self.check_wrong(program, 'h', (), told)
        for at in range(len(told)):
            self.check_wrong(program, told[at][0], told[at][1], told[:at] + told[at + 1:])
            self.check_wrong(program, 'f', ('p',), told + told[at:at + 1])
            self.check_wrong(program, 'f', ('p',), told + ((told[at][:2] + ((), ())),))
        # An entry that nothing asks for is checked, too.
        further = paper(program, 'h')
        self.check_right(program, 'f', ('p',), told + further[:1])
        self.check_wrong(program, 'f', ('p',), told + (('h', (), (), ()),))
        self.check_wrong(program, 'g', (), (paper(program, 'g')[0], ('h', (), (), ())))
        self.check_right(program, 'g', (), further[::-1])
        self.check_wrong(program, 'g', (), paper(program, 'g') + further)

    def test_of_another_program(self):
        program = Program.read(LOOP)
        for text in ('globals a kinds k def f() { while { a = a + 2 } risk k }', 'globals a kinds k def f() { while { a = a - 1 } risk k } def g() { }',
                     'globals a kinds k def f() { while { a = a + 1 } risk k return a }'):
            self.check_right(Program.read(text), 'f', (), paper(program, 'f'))
        for text in ('globals a kinds k def f() { while { a = 2*a } risk k }', 'globals a kinds k def f() { while { a = a + 1 } raise k }',
                     'globals a kinds k def g() { while { a = a + 1 } risk k } def f() { }', 'globals a kinds l def f() { while { a = a + 1 } risk l }',
                     'globals a b kinds k def f() { while { a = a + 1 } risk k }', 'globals a kinds k def f() { a = a while { a = a + 1 } risk k }',
                     'globals a kinds k def f() { u = 0 while { a = a + 1 } risk k }', 'globals a kinds k def f() { while { a = a + 1 } if { risk k } }',
                     'globals a kinds k def f(x) { while { a = a + 1 } risk k }', 'globals a kinds k def f() { while { a = a + 1 } g() } def g() { risk k }'):
            self.check_wrong(Program.read(text), 'f', (), paper(program, 'f'))

    def test_a_paper_shows_no_less(self):
        # The runs without a round alone would show the verdict same.
        program = Program.read(LOOP)
        same = (('f', (), (((None, None), (0, 0)), ((2, 'k'), (0, 1))), ((0, (self.ONE,)),)),)
        self.check_wrong(program, 'f', (), same)
        calls = Program.read('globals a kinds k def f() { g() risk k } def g() { if { a = a + 1 } }')
        pairs = (((None, None), (0, 0)), ((1, 'k'), (0, 1)))
        self.check_wrong(calls, 'f', (), (('f', (), pairs, ()), ('g', (), (((None, None), (0,)),), ())))
        self.check_wrong(calls, 'f', (), (('f', (), pairs, ()), ('g', (), (((None, None), (0,)), ((None, None), (1,))), ())))

    def test_inner_loops(self):
        program = Program.read('globals a b kinds k def f() { while { undo a, b { while { a = a + b risk k } } b = b + 1 } }')
        told = paper(program, 'f')
        self.check_right(program, 'f', (), told)
        (name, case, pairs, loops), = told
        self.assertEqual([place for place, _ in loops], [0, 2])
        for at in range(2):
            for gone in range(len(loops[at][1])):
                fewer = loops[at][1][:gone] + loops[at][1][gone + 1:]
                changed = tuple((place, fewer if one == at else matrices) for one, (place, matrices) in enumerate(loops))
                self.check_wrong(program, name, case, ((name, case, pairs, changed),))
        self.check_wrong(program, name, case, ((name, case, pairs, loops[:1]),))
        self.check_wrong(program, name, case, ((name, case, pairs, loops[1:]),))


def changed(value, chosen, words):
    """A value with one part of it changed."""
    if isinstance(value, tuple) and value and chosen.random() < 0.93:
        at = chosen.randrange(len(value))
        return value[:at] + (changed(value[at], chosen, words),) + value[at + 1:]
    if isinstance(value, tuple):
        more = (chosen.choice(value),) if value else (chosen.choice(words),)
        at = chosen.randint(0, len(value))
        return chosen.choice((value[1:], value[:-1], value + more, value[:at] + more + value[at:], value[::-1], list(value), None))
    if isinstance(value, bool) or value is None:
        return chosen.choice((None, 0, True))
    if isinstance(value, int):
        return chosen.choice((value + 1, value - 1, -value, 0, 1, bool(value), str(value), None, value + 2))
    return chosen.choice(words)


class TestChanged(Checked):
    def test_changed_papers(self):
        seen = {False: 0, True: 0}
        for start in range(200):
            sample = Sample(start + 500, functions=2, words=('set', 'set', 'call', 'if', 'while', 'while', 'risk', 'try', 'undo', 'with', 'return'))
            words = sample.names + sample.kinds + sample.globals + ('p', 'zz')
            for name in sample.names:
                case = sample.case(name)
                value = paper(sample.program, name, case)
                for _ in range(8):
                    other = value
                    for _ in range(sample.chosen.choice((1, 1, 1, 2, 3))):
                        other = changed(other, sample.chosen, words)
                    seen[self.check(sample.program, name, case, other)] += 1
        self.assertGreater(seen[False], 500)
        self.assertGreater(seen[True], 100)

    def test_written_otherwise(self):
        for start in range(50):
            sample = Sample(start + 900, functions=2)
            chosen = random.Random(start)
            for name in sample.names:
                case = sample.case(name)
                value = []
                for one, within, pairs, loops in paper(sample.program, name, case):
                    pairs = list(pairs) + [one for one in pairs if chosen.random() < 0.3]
                    for choices, outcome in Machine(sample.program).runs(one, within, (0,) * self.size(sample, one, within), 3, (0, 3, -1)):
                        pairs.append(((outcome[1], outcome[0]), tuple(choices)))
                    chosen.shuffle(pairs)
                    loops = [(place, self.mixed(matrices, chosen)) for place, matrices in loops] + [(70, ()), (-3, (1,))]
                    chosen.shuffle(loops)
                    value.append((one, within, tuple(pairs), tuple(loops)))
                chosen.shuffle(value)
                self.check_right(sample.program, name, case, tuple(value))
                self.assertTrue(is_right(sample.program, name, case, tuple(value)))

    def size(self, sample, name, case):
        return len(sample.program.cells(name, case)) + sum(not by_place for _, by_place in sample.params[name])

    def mixed(self, matrices, chosen):
        """Other matrices with the same span, and more that are spanned."""
        found = list(matrices)
        for at in range(len(found)):
            factor = chosen.choice((-2, 1, 3))
            other = chosen.choice(found[:at]) if at else None
            found[at] = tuple(tuple(factor * number + (other[row][col] if other else 0) for col, number in enumerate(numbers))
                              for row, numbers in enumerate(found[at]))
        found.append(chosen.choice(found))
        chosen.shuffle(found)
        return tuple(found)
