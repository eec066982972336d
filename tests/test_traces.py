import unittest

from allornothing.errors import InvalidCase, InvalidChoices, LimitExceeded, UnknownFunction
from allornothing.machine import Machine
from allornothing.programs import Program
from allornothing.traces import traced
from oracle import Oracle, TooFar
from samples import Sample


def size_of(program, name, case):
    return len(program.cells(name, case)) + sum(not by_place for _, by_place in program[name][1])


class TestTraced(unittest.TestCase):
    def test_example(self):
        program = Program.read('globals a kinds k def f(x) { while { a = a + x } risk k return 2*a }')
        self.assertEqual(traced(program, 'f', (), [1, 0, 1]), ((2, 'k'), ((1, 0, 0), (0, 1, 1), (0, 0, 0)), 3))
        self.assertEqual(traced(program, 'f', (), [1, 1, 0]), (None, ((1, 0, 0), (0, 1, 2), (0, 2, 4)), 4))

    def test_by_hand(self):
        program = Program.read('globals a b kinds k def f(&p, x) { p = 2*x - b + 7 a = ? if { raise k } return p - 3 }')
        for choice in (0, 1, -5, 10 ** 59):
            self.assertEqual(traced(program, 'f', ('p',), [choice]), (
                None, ((1, 0, 0, 0, 0), (choice, 0, 0, 0, 0), (0, 0, 1, 0, 0), (7, 0, -1, 0, 2), (4, 0, -1, 0, 2)), 2))
        self.assertEqual(traced(program, 'f', ('a',), [4, 1]),
                         ((3, 'k'), ((1, 0, 0, 0), (4, 0, 0, 0), (0, 0, 1, 0), (0, 0, 0, 0)), 2))
        self.assertEqual(traced(program, 'f', ('b',), []),
                         (None, ((1, 0, 0, 0), (0, 0, 0, 0), (7, 0, -1, 2), (4, 0, -1, 2)), 2))
        self.assertEqual(traced(Program.read('def f() { }'), 'f', (), [1, 2]), (None, ((1,), (0,)), 0))

    def test_against_runs(self):
        many = 0
        for start in range(500):
            sample = Sample(start)
            oracle = Oracle(sample.tree)
            for name in sample.names:
                case = sample.case(name)
                choices = sample.choices()
                given = list(choices)
                size = size_of(sample.program, name, case)
                try:
                    told = oracle.run(name, case, (0,) * size, choices)
                except TooFar as error:
                    with self.assertRaises(LimitExceeded) as caught:
                        traced(sample.program, name, case, choices)
                    self.assertEqual(caught.exception.word, str(error))
                    continue
                ending, matrix, used = traced(sample.program, name, case, choices)
                self.assertEqual(choices, given)
                self.assertEqual(ending, None if told[0] is None else (told[1], told[0]))
                self.assertEqual(used, told[4])
                self.assertEqual(matrix[0], (1,) + (0,) * size)
                self.assertIs(type(matrix), tuple)
                self.assertEqual({(type(row), len(row)) for row in matrix}, {(tuple, size + 1)})
                entries = [sample.entry(name, case), (0,) * size]
                entries += [tuple(int(at == other) for other in range(size)) for at in range(size)]
                for entry in entries:
                    found = oracle.run(name, case, entry, choices)
                    values = [sum(number * worth for number, worth in zip(row, (1,) + entry)) for row in matrix]
                    self.assertEqual(tuple(values[1:-1]), found[2])
                    self.assertEqual(values[-1], found[3])
                    self.assertEqual(Machine(sample.program)(name, case, entry, choices), found[:5])
                many += 1
        self.assertGreater(many, 800)

    def test_by_name(self):
        program = Program.read('kinds k def f() { risk k }')
        self.assertEqual(traced(choices=[1], case=(), name='f', program=program), ((0, 'k'), ((1,), (0,)), 1))

    def test_errors(self):
        program = Program.read('globals a kinds k def f(&p, x) { while { } if { f(&p, x) } }')
        for name in (None, 'g', ['f'], ('f',), True):
            with self.assertRaises(UnknownFunction) as caught:
                traced(program, name, None, None)
            self.assertIs(caught.exception.name, name)
        for case in (None, (), ['p'], ('x',), 'p', ('p', 'p'), True):
            with self.assertRaises(InvalidCase) as caught:
                traced(program, 'f', case, None)
            self.assertIs(caught.exception.value, case)
        for choices in (None, (), (1,), [True], [None], 1, '', [1.0]):
            with self.assertRaises(InvalidChoices) as caught:
                traced(program, 'f', ('p',), choices)
            self.assertIs(caught.exception.value, choices)
        with self.assertRaises(LimitExceeded) as caught:
            traced(program, 'f', ('p',), [0, 1] * 20)
        self.assertEqual(caught.exception.word, 'calls')
        long = Program.read('def f() { while { if { } } }')
        self.assertEqual(traced(long, 'f', (), [1, 0] * 3999)[2], 7999)
        with self.assertRaises(LimitExceeded) as caught:
            traced(long, 'f', (), [1, 0] * 4000)
        self.assertEqual(caught.exception.word, 'steps')
