"""Machine.runs beside a search through all lists."""

import itertools
import unittest

from allornothing.errors import InvalidCase, InvalidEntry, UnknownFunction
from allornothing.machine import Machine
from allornothing.programs import Program
from oracle import Oracle, TooFar
from samples import Sample


def wanted(tree, name, case, entry, most, inputs, injections=()):
    """The runs, found by trying all lists of ways and inputs."""
    found = []
    oracle = Oracle(tree, injections)
    options = sorted(set(range(3)) | set(inputs))
    for size in range(most + 1):
        for choices in itertools.product(options, repeat=size):
            try:
                kind, place, cells, result, used = oracle.run(name, case, entry, choices)[:5]
            except TooFar:
                continue
            if used != size:
                continue
            if all(choice in inputs if ways is None else 0 <= choice < ways
                   for choice, ways in zip(choices, oracle.ways)):
                order = [inputs.index(choice) if ways is None else choice for choice, ways in zip(choices, oracle.ways)]
                found.append((order, (list(choices), (kind, place, cells, result, used))))
    return [told for _, told in sorted(found, key=lambda one: one[0])]


class TestRuns(unittest.TestCase):
    def test_random(self):
        many = 0
        for start in range(200):
            sample = Sample(start, functions=2, most=3, depth=2)
            machine = Machine(sample.program)
            name = sample.names[0]
            case = sample.case(name)
            entry = sample.entry(name, case)
            injections = [(one, place, 1, statement[1][0]) for one in sample.names
                          for place, statement in sample.program.statements(one)
                          if statement[0] == 'risk' and sample.chosen.random() < 0.3]
            for inputs in ((0, 1), (7, -2, 1), (3,)):
                for most in range(4):
                    told = list(machine.runs(name, case, entry, most, inputs))
                    self.assertEqual(told, wanted(sample.tree, name, case, entry, most, inputs), sample.tree)
                    many += len(told)
                    armed = machine.injected(injections)
                    self.assertEqual(list(armed.runs(name, case, entry, most, inputs)),
                                     wanted(sample.tree, name, case, entry, most, inputs, injections))
            self.assertEqual(list(machine.runs(name, case, entry, 3)), list(machine.runs(name, case, entry, 3, (0, 1))))
        self.assertGreater(many, 2000)

    def test_most(self):
        machine = Machine(Program.read('globals a kinds k l def f() { risk k, l if { a = ? } }'))
        runs = [[0, 0], [0, 1, 0], [0, 1, 1], [1], [2]]
        for most in range(5):
            found = [choices for choices, _ in machine.runs('f', (), (0,), most)]
            self.assertEqual(found, [choices for choices in runs if len(choices) <= most])
        plain = Machine(Program.read('globals a def f() { a = 1 }'))
        self.assertEqual(list(plain.runs('f', (), (0,), 0)), [([], (None, None, (1,), 0, 0))])
        self.assertEqual(list(plain.runs('f', (), (0,), 5)), [([], (None, None, (1,), 0, 0))])

    def test_inputs_keep_their_order(self):
        machine = Machine(Program.read('globals a def f() { a = ? if { } }'))
        found = list(machine.runs('f', (), (0,), 2, inputs=(5, -10 ** 59, 0)))
        self.assertEqual(found, [([number, way], (None, None, (number,), 0, 2))
                                 for number in (5, -10 ** 59, 0) for way in (0, 1)])

    def test_limits_are_left_out(self):
        deep = Machine(Program.read('globals a def f() { a = a + 1 if { f() } }'))
        found = list(deep.runs('f', (), (0,), 30))
        self.assertEqual([choices for choices, _ in found], [[1] * many + [0] for many in range(19, -1, -1)][::-1])
        forever = Machine(Program.read('globals a def f() { if { f() } else { f() } }'))
        self.assertEqual(list(forever.runs('f', (), (0,), 8)), [])
        calls = ' '.join(['f()'] * 15)
        much = Machine(Program.read('globals a kinds k def f() { if { g() } } def g() { h() h() h() h() h() h() h() h() '
                                    'risk k } def h() { i() i() i() i() i() i() i() i() } '
                                    'def i() { j() j() j() j() j() j() j() j() } '
                                    'def j() { a = 1 a = 1 a = 1 a = 1 a = 1 a = 1 a = 1 a = 1 }'))
        self.assertEqual([choices for choices, _ in much.runs('f', (), (0,), 4)], [[0]])
        self.assertEqual(len(calls), 59)

    def test_yielded_lists_are_new(self):
        machine = Machine(Program.read('globals a kinds k def f() { risk k risk k }'))
        found = []
        for choices, outcome in machine.runs('f', (), (0,), 2):
            found.append((list(choices), outcome))
            choices.clear()
        self.assertEqual([choices for choices, _ in found], [[0, 0], [0, 1], [1]])

    def test_errors(self):
        machine = Machine(Program.read('globals a def f(&p) { }'))
        for error, args in ((UnknownFunction, (None, 1, 1)), (InvalidCase, ('f', None, 1)), (InvalidEntry, ('f', ('p',), (1,))),
                            (InvalidEntry, ('f', ('a',), (True,)))):
            with self.assertRaises(error):
                list(machine.runs(*args, 2))
        self.assertEqual(len(list(machine.runs(name='f', case=('a',), entry=(1,), most=2, inputs=(1,)))), 1)
