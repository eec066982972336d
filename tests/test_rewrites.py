"""Programs that are written otherwise, and have the same worst verdicts."""

import itertools
import random
import unittest

from allornothing.errors import TooLarge
from allornothing.programs import Program
from allornothing.summaries import Analysis
from allornothing.verdicts import verdicts
from samples import Sample

RANKS = ('same', 'sound', 'changed')


def worst(program, name, case=None):
    """A dict from the kinds to the worst verdicts."""
    found = {}
    for (_, kind), verdict in verdicts(Analysis(program), name, case).items():
        found[kind] = max(found.get(kind, 'same'), verdict, key=RANKS.index)
    return found


def mapped(value, change):
    """A tree with its statements changed: those of the inner blocks first."""
    def block(statements):
        return tuple(new for statement in statements for new in change(inner(statement)))

    def inner(statement):
        match statement:
            case ('if', one, other):
                return 'if', block(one), block(other)
            case ('while', one):
                return 'while', block(one)
            case ('try', one, handlers, last):
                return 'try', block(one), tuple((kinds, block(held)) for kinds, held in handlers), block(last)
            case ('undo', names, one):
                return 'undo', names, block(one)
            case ('with', enter, leave, kinds, one):
                return 'with', enter, leave, kinds, block(one)
        return statement
    return value[:3] + (tuple((name, params, block(held)) for name, params, held in value[3]),)


def renamed(value, names):
    """A tree with other names; the words of statements are no names of it."""
    if isinstance(value, tuple):
        if len(value) == 2 and isinstance(value[0], int) and isinstance(value[1], tuple):
            return value[0], tuple(sorted((names[name], factor) for name, factor in value[1]))
        return tuple(renamed(one, names) for one in value)
    return names.get(value, value) if isinstance(value, str) else value


class TestRewrites(unittest.TestCase):
    def check(self, start, change, least=30, **wanted):
        """Check that a change of trees leaves the worst verdicts as they are; for how many is counted."""
        many = 0
        for sample in (Sample(one, **wanted) for one in range(start, start + 120)):
            tree = change(sample)
            if tree is None or tree == sample.tree:
                continue
            try:
                program = Program(tree)
            except TooLarge:
                continue
            for name in sample.names:
                for case in sample.program.cases(name):
                    self.assertEqual(worst(program, name, case), worst(sample.program, name, case), (sample.tree, tree, name, case))
            many += 1
        self.assertGreater(many, least)

    def test_a_global_that_nothing_uses(self):
        self.check(0, lambda sample: (('zz',) + sample.tree[0],) + sample.tree[1:])
        self.check(0, lambda sample: (sample.tree[0] + ('zz',),) + sample.tree[1:])

    def test_functions_in_another_order(self):
        self.check(100, lambda sample: sample.tree[:3] + (sample.tree[3][::-1],))

    def test_renamed(self):
        names = dict(zip(('a', 'b', 'c', 'p', 'q', 'x', 'u', 'v', 'f', 'g', 'h', 'k', 'l', 'm'),
                         ('zero', 'c', 'b', 'w1', 'a', 'u', 'q', 'x', 'h', 'm', 'f', 'g', 'p', 'one')))
        many = 0
        for start in range(120):
            sample = Sample(start)
            program = Program(renamed(sample.tree, names))
            for name in sample.names:
                for case in sample.program.cases(name):
                    told = verdicts(Analysis(program), names[name], tuple(names[cell] for cell in case))
                    found = verdicts(Analysis(sample.program), name, case)
                    self.assertEqual(told, {(place, names[kind]): verdict for (place, kind), verdict in found.items()})
                    many += len(told)
        self.assertGreater(many, 200)

    def test_loop_unrolled_once(self):
        def unrolled(sample):
            left = [1]

            def change(statement):
                if statement[0] != 'while' or not left:
                    return [statement]
                left.pop()
                return [('if', statement[1] + (statement,), ())]
            return mapped(sample.tree, change)
        self.check(200, unrolled)
        self.check(300, unrolled, most=3, words=('set', 'set', 'input', 'call', 'if', 'while', 'while', 'risk', 'try', 'undo', 'return'))

    def test_handlers_parted(self):
        def parted(statement):
            if statement[0] != 'try':
                return [statement]
            handlers = tuple(((kind,), block) for kinds, block in statement[2] for kind in kinds)
            return [statement[:2] + (handlers,) + statement[3:]]
        self.check(400, lambda sample: mapped(sample.tree, parted), words=('set', 'set', 'call', 'if', 'risk', 'risk', 'try', 'try', 'return', 'while'))

    def test_thrown_again(self):
        def again(sample):
            handlers = tuple(((kind,), (('raise', kind),)) for kind in sample.kinds)
            functions = tuple((name, params, (('try', block, handlers, ()),)) for name, params, block in sample.tree[3])
            return sample.tree[:3] + (functions,)
        self.check(500, again)

    def test_one_function_thrown_again(self):
        def again(sample):
            handlers = ((sample.kinds, (('try', (('risk', sample.kinds),), (), ()), ('raise', sample.kinds[0]))),)
            (name, params, block), *rest = sample.tree[3]
            if len(sample.kinds) > 1:
                return None
            return sample.tree[:3] + (((name, params, (('try', block, handlers, ()),)), *rest),)
        self.check(600, again, least=15)

    def test_body_in_an_undo_of_all_cells(self):
        many = 0
        for start in range(150):
            sample = Sample(start)
            chosen = random.Random(start)
            functions = []
            for name, params, block in sample.tree[3]:
                names = list(sample.globals) + [param for param, by_place in params if by_place]
                chosen.shuffle(names)
                functions.append((name, params, (('undo', tuple(names), block),)))
            try:
                program = Program(sample.tree[:3] + (tuple(functions),))
            except TooLarge:
                continue
            for name in sample.names:
                for case in program.cases(name):
                    found = verdicts(Analysis(program), name, case)
                    self.assertTrue(set(found.values()) <= {'same'})
                    many += len(found)
        self.assertGreater(many, 300)

    def test_calls_written_out(self):
        called = {'g(&a, 2*b)': 'y = 2*b a = a + y risk k if { a = a - y risk l }',
                  'g(&u, x)': 'y = x u = u + y risk k if { u = u - y risk l }',
                  'h()': 'v = 0 while { v = v + 1 b = b + v risk k } v = 0',
                  'i()': 'try { raise k } except k { a = 0 risk l }'}
        rest = (' def g(&r, y) { r = r + y risk k if { r = r - y risk l } } def h() { v = 0 while { v = v + 1 b = b + v risk k } } '
                'def i() { try { raise k } except k { a = 0 risk l } }')
        around = ('{} b = b - 1 {}', 'try {{ {} }} except k {{ a = a + 1 {} }}', 'while {{ {} undo a, b {{ {} risk k }} }}',
                  'if {{ {} return 2 }} else {{ undo u {{ {} }} }} a = u risk l', 'try {{ {} }} finally {{ if {{ risk k }} }} u = u + x {}')
        for one, other in itertools.product(called, repeat=2):
            for keeps in ('', 'keep a + b '):
                for body in around:
                    head = 'globals a b kinds k l ' + keeps + 'def f(x) { u = 1 y = 0 v = 0 '
                    program = Program.read(head + body.format(one, other) + ' } ' + rest)
                    written = Program.read(head + body.format(called[one], called[other]) + ' } ')
                    self.assertEqual(worst(program, 'f'), worst(written, 'f'), (one, other, body))
