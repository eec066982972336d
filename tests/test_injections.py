import unittest

from allornothing.errors import InvalidInjection, LimitExceeded
from allornothing.machine import Machine
from allornothing.programs import Program

TEXT = ('globals a b kinds k l def f() { a = a + 1 risk k, l while { try { risk l b = b + 1 } except l { a = a + 10 } } } '
        'def g() { f() risk k, k }')
ONE = ('f', 1, 1, 'l')


class TestInjected(unittest.TestCase):
    def setUp(self):
        self.program = Program.read(TEXT)
        self.machine = Machine(self.program)

    def run_with(self, injections, choices, name='f'):
        return self.machine.injected(injections)(name, (), (0, 0), choices)

    def test_none(self):
        self.assertEqual(self.machine.injections(), [])
        self.assertEqual(self.machine.injected([]).injections(), [])
        self.assertEqual(self.run_with([], [1]), self.machine('f', (), (0, 0), [1]))

    def test_no_choice_is_taken(self):
        self.assertEqual(self.run_with([('f', 1, 1, 'l')], [1, 1]), ('l', 1, (1, 0), 0, 0))
        self.assertEqual(self.run_with([('f', 1, 1, 'k')], []), ('k', 1, (1, 0), 0, 0))
        self.assertEqual(self.run_with([('f', 4, 1, 'l')], [0, 1, 1, 0, 0]), (None, None, (11, 1), 0, 5))
        self.assertEqual(self.run_with([('f', 4, 2, 'l')], [0, 1, 0, 1, 0]), (None, None, (11, 1), 0, 5))
        self.assertEqual(self.run_with([('f', 4, 2, 'l'), ('f', 4, 1, 'l')], [0, 1, 1, 0]), (None, None, (21, 0), 0, 4))

    def test_beyond_the_run(self):
        for nth in (2, 3, 100, 10 ** 59):
            self.assertEqual(self.run_with([('f', 1, nth, 'l')], [0, 0]), self.machine('f', (), (0, 0), [0, 0]))
        self.assertEqual(self.run_with([('g', 1, 1, 'k')], [0, 0]), self.machine('f', (), (0, 0), [0, 0]))

    def test_passings_are_counted_over_the_whole_run(self):
        program = Program.read('globals a kinds k def f() { g() h() g() } def g() { risk k a = a + 1 } '
                               'def h() { try { g() } except k { a = 100 } }')
        machine = Machine(program)
        for nth, told in ((1, ('k', 0, (0,), 0, 0)), (2, (None, None, (101,), 0, 2)), (3, ('k', 2, (2,), 0, 2))):
            self.assertEqual(machine.injected([('g', 0, nth, 'k')])('f', (), (0,), []), told)

    def test_each_run_counts_anew(self):
        armed = self.machine.injected([ONE])
        for _ in range(3):
            self.assertEqual(armed('f', (), (0, 0), []), ('l', 1, (1, 0), 0, 0))
            self.assertEqual(armed.passings('f', (), (0, 0), []), [('f', 1)])

    def test_replayed(self):
        for injections in ([ONE], [('f', 4, 1, 'l')], [('f', 4, 2, 'l'), ('g', 1, 1, 'k')], [('f', 1, 1, 'k')]):
            armed = self.machine.injected(injections)
            for choices in ([], [0, 1], [0, 1, 0, 1, 1, 0], [3, 5, 7, 9, 1, 1, 0], [0, 1, 1, 1, 0]):
                told = armed('g', (), (3, 4), choices)
                replay = armed.replayed('g', (), (3, 4), choices)
                again = self.machine('g', (), (3, 4), replay)
                self.assertEqual(again[:4], told[:4])
                self.assertEqual(again[4], len(replay))
                self.assertEqual(armed.passings('g', (), (3, 4), choices), self.machine.passings('g', (), (3, 4), replay))
        self.assertEqual(self.machine.injected([ONE]).replayed('g', (), (0, 0), [5]), [2])
        self.assertEqual(self.machine.injected([('g', 1, 1, 'k')]).replayed('g', (), (0, 0), [3, 2]), [3, 2, 1])
        self.assertEqual(self.machine.injected([('f', 4, 1, 'l')]).replayed('f', (), (0, 0), [0, 7, 8]), [0, 7, 1, 8])

    def test_lists_are_copies(self):
        injections = [ONE]
        armed = self.machine.injected(injections)
        injections.append(('f', 4, 1, 'l'))
        self.assertEqual(armed.injections(), [ONE])
        told = armed.injections()
        told.clear()
        self.assertEqual(armed.injections(), [ONE])
        self.assertEqual(armed('f', (), (0, 0), []), ('l', 1, (1, 0), 0, 0))

    def test_order_is_kept(self):
        injections = [('g', 1, 7, 'k'), ('f', 4, 2, 'l'), ('f', 1, 1, 'k'), ('f', 4, 1, 'l')]
        self.assertEqual(self.machine.injected(injections).injections(), injections)

    def test_these_only(self):
        first = self.machine.injected([ONE])
        second = first.injected([('f', 4, 1, 'l')])
        self.assertEqual((first.injections(), second.injections()), ([ONE], [('f', 4, 1, 'l')]))
        self.assertEqual(self.machine.injections(), [])
        self.assertEqual(second('f', (), (0, 0), [0, 0])[0], None)
        self.assertEqual(first.injected([])('f', (), (0, 0), [])[0], None)

    def refused(self, injections, value):
        armed = self.machine.injected([ONE])
        for call in (armed.injected, lambda given: armed.within(given, self.fail)):
            with self.assertRaises(InvalidInjection) as caught:
                call(injections)
            self.assertIs(caught.exception.value, value)
            self.assertEqual(armed.injections(), [ONE])

    def test_no_list(self):
        for value in (None, (), (ONE,), ONE, 'f', 0, True, {ONE: 1}, {ONE}):
            self.refused(value, value)

    def test_no_injection(self):
        for value in (None, 0, 'fffl', (), ONE[:3], ONE + (1,), list(ONE), ('h', 1, 1, 'k'), (None, 1, 1, 'k'), (['f'], 1, 1, 'k'),
                      ('f', 0, 1, 'k'), ('f', 2, 1, 'k'), ('f', 3, 1, 'l'), ('f', 6, 1, 'k'), ('f', -1, 1, 'k'), ('f', 99, 1, 'k'),
                      ('f', True, 1, 'k'), ('f', '1', 1, 'k'), ('f', None, 1, 'k'), ('f', 1, 0, 'k'), ('f', 1, -1, 'k'),
                      ('f', 1, True, 'k'), ('f', 1, None, 'k'), ('f', 1, '1', 'k'), ('f', 1, 1, 'm'), ('f', 4, 1, 'k'),
                      ('f', 1, 1, None), ('f', 1, 1, ['k']), ('f', 1, 1, 0), ('f', 1, 1, ('k',)), ('f', 1.0, 1, 'k'),
                      ('f', 1, 1.0, 'k'), ('f', [1], 1, 'k'), ('f', 1, [1], 'k')):
            self.refused([value], value)
            self.refused([('f', 4, 1, 'l'), value, None], value)

    def test_places_of_risks_only(self):
        program = Program.read('globals a kinds k def f() { risk k raise k k() try { } except k { } undo a { } risk k } def k1() { }'
                               .replace('k()', 'k1()'))
        machine = Machine(program)
        for place in range(-7, 8):
            if place in (0, 5):
                self.assertEqual(machine.injected([('f', place, 1, 'k')]).injections(), [('f', place, 1, 'k')])
            else:
                with self.assertRaises(InvalidInjection):
                    machine.injected([('f', place, 1, 'k')])

    def test_repeated(self):
        again = ('f', 1, 1, 'k')
        self.refused([ONE, again], again)
        self.refused([ONE, ('f', 4, 1, 'l'), again, None], again)
        self.assertEqual(len(self.machine.injected([ONE, ('f', 1, 2, 'l'), ('f', 4, 1, 'l')]).injections()), 3)


class TestWithin(unittest.TestCase):
    def setUp(self):
        self.machine = Machine(Program.read(TEXT))

    def test_result_and_state(self):
        other = [('f', 4, 1, 'l')]
        for machine in (self.machine, self.machine.injected([ONE])):
            before = machine.injections()
            self.assertEqual(machine.within(other, machine.injections), other)
            self.assertEqual(machine.injections(), before)
            self.assertIs(machine.within([], lambda: self), self)
            self.assertEqual(machine.within(injections=[], call=lambda: 5), 5)
            self.assertEqual(machine.within([], lambda: machine('f', (), (0, 0), [])), self.machine('f', (), (0, 0), []))
            told = machine.within(other, lambda: (machine('f', (), (0, 0), [0, 1, 0]),
                                                  machine.passings('f', (), (0, 0), [0, 1, 0]),
                                                  machine.replayed('f', (), (0, 0), [0, 1, 0])))
            self.assertEqual(told, ((None, None, (11, 0), 0, 3), [('f', 1), ('f', 4)], [0, 1, 1, 0]))
            self.assertEqual(machine.injections(), before)

    def test_errors_of_the_call(self):
        armed = self.machine.injected([ONE])
        for error in (ValueError, KeyError, KeyboardInterrupt, LimitExceeded):
            def call():
                self.assertEqual(armed.injections(), [])
                raise error('x')
            with self.assertRaises(error):
                armed.within([], call)
            self.assertEqual(armed.injections(), [ONE])
        with self.assertRaises(InvalidInjection):
            armed.within([], lambda: armed.injected(5))
        self.assertEqual(armed.injections(), [ONE])

    def test_one_within_another(self):
        machine = self.machine.injected([ONE])
        first, second = [('f', 4, 1, 'l')], [('g', 1, 1, 'k')]

        def inner():
            told = [machine.injections(), machine.within(second, machine.injections), machine.injections()]
            return told
        self.assertEqual(machine.within(first, inner), [first, second, first])
        self.assertEqual(machine.injections(), [ONE])

    def test_list_is_copied(self):
        given = [ONE]

        def call():
            given.clear()
            return self.machine.injections()
        self.assertEqual(self.machine.within(given, call), [ONE])

    def test_runs(self):
        machine = self.machine.injected([ONE])
        self.assertEqual(list(machine.runs('f', (), (0, 0), 3)), [([], ('l', 1, (1, 0), 0, 0))])
        found = machine.within([('f', 4, 1, 'l')], lambda: list(machine.runs('f', (), (0, 0), 3)))
        self.assertEqual([choices for choices, _ in found], [[0, 0], [0, 1, 0], [1], [2]])
