"""Stores and transactions beside a plain model of them, and all crashes."""

import itertools
import random
import unittest

from allornothing.errors import (InvalidChoices, InvalidEntry, InvalidEvent, InvalidValues, LimitExceeded, UnknownFunction,
                                 UnknownName)
from allornothing.machine import Machine
from allornothing.programs import Program
from allornothing.stores import Database, Store, is_safe, transaction
from oracle import Oracle, TooFar
from samples import Sample
from wrong import ANY, NO_NAMES, Anything, check_function_and_case

FLUSH, CLEAR = ('flush',), ('clear',)
NO_VALUES = (None, True, 0, 'a', (), [], [('a', 1)], {'a'}, {'a': True}, {'a': None}, {'a': '1'}, {'a': 1.0}, {1: 1}, {None: 0}, {('a',): 1},
             {'': 1}, {'A': 1}, {'1a': 1}, {'a b': 1}, {'if': 1}, {'globals': 0}, {'a': 1, 'keep': 2}, {'a': 1, 'b': [2]}, {True: 1}, object())
WRITING = ('set',) * 12 + ('input', 'input', 'call', 'call', 'if', 'while', 'while', 'risk', 'try', 'undo', 'undo', 'with', 'return')
PAY = 'globals a b kinds k def pay() { a = a - 1 risk k b = b + 1 }'


def applied(values, records, events):
    values, records = dict(values), list(records)
    for event in events:
        match event:
            case ('log', name, number):
                records.append((name, number))
            case ('write', name, number):
                values[name] = number
            case ('clear',):
                records.clear()
    return values, records


def crashes_of(values, events):
    """The (values, log) after each crash behind these events, in the promised order."""
    last = max((at + 1 for at, event in enumerate(events) if event == FLUSH), default=0)
    ahead = events[last:]
    for number in range(2 ** len(ahead)):
        kept = [event for at, event in enumerate(ahead) if number // 2 ** at % 2]
        yield applied(*applied(values, [], events[:last]), kept)


def undone(values, records):
    values = dict(values)
    for name, number in reversed(records):
        values[name] = number
    return values


def is_safe_by_hand(values, events):
    allowed = [values, applied(values, [], events)[0]]
    return all(undone(*left) in allowed for many in range(len(events) + 1) for left in crashes_of(values, events[:many]))


class Writes(Oracle):
    """Notes the writes of cells, and their old values."""

    def box(self, name, number):
        noted = self.noted

        class Box(list):
            def __setitem__(self, at, number):
                noted.append((name, self[0], number))
                super().__setitem__(at, number)
        return Box([number])

    def events(self, name, case, entry, choices, durable):
        self.noted = []
        outcome = self.run(name, case, entry, choices)[:5]
        old, told = {}, []

        def write(cell, number):
            last = max((at for at, event in enumerate(told) if event == FLUSH), default=-1)
            if len([event for event in told[last + 1:] if event[0] == 'write']) == 4:
                told.append(FLUSH)
            told.append(('write', cell, number))
        for cell, before, number in self.noted:
            if cell in durable:
                if cell not in old:
                    old[cell] = before
                    told.extend([('log', cell, before), FLUSH])
                write(cell, number)
        if outcome[0] is not None:
            for cell in list(old)[::-1]:
                write(cell, old[cell])
        return told + [FLUSH, CLEAR, FLUSH] * (told != []), outcome


class TestStore(unittest.TestCase):
    def test_events(self):
        store = Store({'a': 1, 'b': 2})
        self.assertEqual((store.current(), store.log(), store.pending), ({'a': 1, 'b': 2}, [], 0))
        for event, wanted in ((('write', 'a', 5), ({'a': 5, 'b': 2}, [], 1)), (('log', 'b', 7), ({'a': 5, 'b': 2}, [('b', 7)], 2)),
                              (('log', 'a', -1), ({'a': 5, 'b': 2}, [('b', 7), ('a', -1)], 3)), (FLUSH, ({'a': 5, 'b': 2}, [('b', 7), ('a', -1)], 0)),
                              (('write', 'b', 10 ** 30), ({'a': 5, 'b': 10 ** 30}, [('b', 7), ('a', -1)], 1)),
                              (CLEAR, ({'a': 5, 'b': 10 ** 30}, [], 2)), (('log', 'b', 0), ({'a': 5, 'b': 10 ** 30}, [('b', 0)], 3)),
                              (FLUSH, ({'a': 5, 'b': 10 ** 30}, [('b', 0)], 0)), (FLUSH, ({'a': 5, 'b': 10 ** 30}, [('b', 0)], 0))):
            self.assertIsNone(store.perform(event))
            self.assertEqual((store.current(), store.log(), store.pending), wanted)

    def test_crashes(self):
        store = Store({'a': 0})
        for event in (('log', 'a', 9), FLUSH, ('write', 'a', 1), ('write', 'a', 2), CLEAR):
            store.perform(event)
        found = [(one.current()['a'], one.log(), one.pending) for one in store.crashes()]
        log = [('a', 9)]
        self.assertEqual(found, [(0, log, 0), (1, log, 0), (2, log, 0), (2, log, 0), (0, [], 0), (1, [], 0), (2, [], 0), (2, [], 0)])
        self.assertEqual((store.pending, store.log(), store.current()), (3, [], {'a': 2}))
        self.assertEqual(store.recovered().current(), {'a': 2})
        self.assertEqual([one.recovered().current()['a'] for one in store.crashes()], [9, 9, 9, 9, 0, 1, 2, 2])
        store.perform(FLUSH)
        self.assertEqual([one.current() for one in store.crashes()], [{'a': 2}])

    def test_recovered(self):
        store = Store({'a': 0, 'b': 0})
        for event in (('log', 'a', 1), ('log', 'b', 2), ('log', 'a', 3), ('write', 'b', 5)):
            store.perform(event)
        other = store.recovered()
        self.assertEqual((other.current(), other.log(), other.pending), ({'a': 1, 'b': 2}, [], 0))
        self.assertEqual((store.current(), len(store.log()), store.pending), ({'a': 0, 'b': 5}, 3, 4))
        self.assertIs(type(other), Store)
        other.perform(('write', 'a', 8))
        self.assertEqual(store.current()['a'], 0)

    def test_random(self):
        chosen = random.Random(1)
        for _ in range(200):
            values = {name: chosen.randint(-3, 3) for name in ('a', 'b', 'c')[:chosen.randint(1, 3)]}
            store, events = Store(dict(values)), []
            for _ in range(chosen.randint(0, 14)):
                name = chosen.choice(list(values))
                event = chosen.choice((('log', name, chosen.randint(-9, 9)), ('write', name, chosen.randint(-9, 9)), CLEAR, FLUSH))
                if store.pending == 6:
                    event = FLUSH
                store.perform(event)
                events.append(event)
                found = [(one.current(), one.log(), one.pending) for one in store.crashes()]
                self.assertEqual(found, [told + (0,) for told in crashes_of(values, events)])
                self.assertEqual((store.current(), store.log()), applied(values, [], events))
                self.assertEqual(2 ** store.pending, len(found))
                self.assertEqual(store.recovered().current(), undone(*applied(values, [], events)))

    def test_many_crashes_are_told_one_by_one(self):
        store = Store({'a': 0})
        for number in range(200):
            store.perform(('write', 'a', number))
        found = [one.current()['a'] for one, _ in zip(store.crashes(), range(9))]
        self.assertEqual(found, [0, 0, 1, 1, 2, 2, 2, 2, 3])

    def test_its_own(self):
        values = {'a': 1, 'b': 2}
        store = Store(values)
        values['a'] = 7
        del values['b']
        self.assertEqual(store.current(), {'a': 1, 'b': 2})
        store.current().clear()
        store.perform(('log', 'a', 3))
        store.log().clear()
        self.assertEqual((store.current(), store.log()), ({'a': 1, 'b': 2}, [('a', 3)]))
        one, other = store.crashes()
        other.perform(('write', 'b', 9))
        other.perform(('log', 'b', 9))
        self.assertEqual((one.current(), one.log(), store.current(), store.log()), ({'a': 1, 'b': 2}, [], {'a': 1, 'b': 2}, [('a', 3)]))
        first, second = [list(store.crashes())[1] for _ in range(2)]
        first.perform(FLUSH)
        first.perform(('log', 'a', 4))
        self.assertEqual(second.log(), [('a', 3)])

    def test_errors(self):
        for values in NO_VALUES:
            for call in (Store, lambda values: is_safe(values, []), lambda values: is_safe(values, None)):
                with self.assertRaises(InvalidValues) as caught:
                    call(values)
                self.assertIs(caught.exception.value, values)
        store = Store({'a': 1})
        store.perform(('log', 'a', 2))
        for event in (None, True, 0, '', 'flush', (), [], ['flush'], ['log', 'a', 1], ('log',), ('log', 'a'), ('log', 'a', 1, 1), ('log', 'b', 1), ('write', 'b', 1),
                      ('write', 'a', True), ('write', 'a', None), ('write', 'a', 1.0), ('write', ['a'], 1), ('write', {}, 1), ('write', 'a', '1'), ('flush', 1),
                      ('clear', 'a'), ('clear', 'a', 1), ('flush', 'a', 1), ('Flush',), ('crash',), (None,), (['flush'],), (('flush',),), ('write', 1, 'a'), ('read', 'a', 1),
                      {}, {'flush'}, b'flush', ('',), ('write', None, 1), ('log', True, 1), (Anything(), 'a', 1), (Anything(),), Anything(), ('write', Anything(), 1)):
            with self.assertRaises(InvalidEvent) as caught:
                store.perform(event)
            self.assertIs(caught.exception.value, event)
            self.assertEqual((store.current(), store.log(), store.pending), ({'a': 1}, [('a', 2)], 1))
        empty = Store({})
        self.assertEqual((empty.current(), len(list(empty.crashes()))), ({}, 1))
        with self.assertRaises(InvalidEvent):
            empty.perform(('write', 'a', 1))
        store.perform(event=FLUSH)
        self.assertEqual(Store(values={'a': 3}).current(), {'a': 3})


class TestIsSafe(unittest.TestCase):
    def test_by_hand(self):
        values = {'a': 5, 'b': 0}
        log = [('log', 'a', 5), FLUSH]
        for events, wanted in (([], True), ([FLUSH], True), ([('write', 'a', 4)], True), ([('write', 'a', 4), ('write', 'b', 1)], False),
                               (log + [('write', 'a', 4)], True), (log + [('write', 'a', 4), FLUSH, CLEAR, FLUSH], True),
                               (log + [('write', 'a', 4), CLEAR, FLUSH], True), (log + [('write', 'a', 4), ('write', 'a', 3), CLEAR, FLUSH], False),
                               (log + [('write', 'a', 4), ('write', 'a', 3), FLUSH, CLEAR, FLUSH], True), (log[:1] + [('write', 'a', 4), FLUSH, CLEAR, FLUSH], True),
                               (log[:1] + [('write', 'a', 4), ('write', 'b', 4), FLUSH, CLEAR], False), ([('log', 'a', 6)], False),
                               ([('log', 'a', 5)], True), ([('log', 'a', 6), CLEAR], False), ([('write', 'a', 5), ('write', 'b', 0)], True),
                               ([('write', 'a', 4), ('write', 'a', 5)], False), ([('write', 'a', 4), FLUSH, ('write', 'a', 5)], False),
                               ([('write', 'a', 4), FLUSH, ('write', 'b', 1)], False)):
            self.assertIs(is_safe(values, events), wanted, events)
            self.assertIs(is_safe_by_hand(values, events), wanted, events)
            self.assertIs(is_safe(events=events, values=values), wanted)

    def test_all_short_lists(self):
        values = {'a': 0}
        steps = (('log', 'a', 0), ('write', 'a', 1), ('write', 'a', 2), CLEAR, FLUSH)
        seen = {False: 0, True: 0}
        for many in range(6):
            for events in itertools.product(steps, repeat=many):
                wanted = is_safe_by_hand(values, list(events))
                self.assertIs(is_safe(values, list(events)), wanted, events)
                seen[wanted] += 1
        self.assertGreater(min(seen.values()), 500)

    def test_values_of_any_kind(self):
        for events in (None, (), (FLUSH,), 'flush', {}, True, 0, [None], [('write', 'b', 1)], [FLUSH, ['flush']], [FLUSH, ('write', 'a', True)], [[]], {FLUSH: 1},
                       ['flush'], [('write', 'a', 1), ()], [('log', 'a', 1), ('log', 'zz', 1)], object()):
            self.assertIs(is_safe({'a': 0}, events), False, events)
        values, events = {'a': 0}, [('write', 'a', 1)]
        self.assertIs(is_safe(values, events), True)
        self.assertEqual((values, events), ({'a': 0}, [('write', 'a', 1)]))


class TestTransaction(unittest.TestCase):
    def told(self, text, choices=(), entry=(5, 0), durable=('a', 'b'), name='f', case=()):
        program = Program.read(text)
        events, outcome = transaction(program, name, case, entry, list(choices), durable)
        self.assertEqual(outcome, Machine(program)(name, case, entry, list(choices)))
        self.assertEqual((events, outcome), Writes(program.tree()).events(name, case, entry, choices, durable))
        self.check_crashes(program, name, case, entry, events, outcome, durable)
        return ' '.join(event[0] if len(event) == 1 else event[0] + event[1] + str(event[2]) for event in events)

    def check_crashes(self, program, name, case, entry, events, outcome, durable):
        cells = program.cells(name, case)
        before = {cell: number for cell, number in zip(cells, entry) if cell in durable}
        after = before if outcome[0] is not None else {cell: number for cell, number in zip(cells, outcome[2]) if cell in durable}
        self.assertEqual(applied(before, [], events), (after, []))
        self.assertIs(is_safe(before, events), True)
        for many in range(len(events) + 1):
            for left in crashes_of(before, events[:many]):
                self.assertIn(undone(*left), (before, after))

    def test_example(self):
        program = Program.read(PAY)
        events, outcome = transaction(program, 'pay', (), (5, 0), [], ('a', 'b'))
        plain = [('write', 'a', 4), ('write', 'b', 1)]
        self.assertEqual(events[:4], [('log', 'a', 5), FLUSH, ('write', 'a', 4), ('log', 'b', 0)])
        self.assertEqual(outcome, (None, None, (4, 1), 0, 1))
        self.assertTrue(is_safe({'a': 5, 'b': 0}, events))
        self.assertFalse(is_safe({'a': 5, 'b': 0}, plain))
        self.assertTrue(is_safe({'a': 5, 'b': 0}, plain[:1]))

    def test_by_hand(self):
        head = 'globals a b kinds k '
        pay = head + 'def f() { a = a - 1 risk k b = b + 1 }'
        self.assertEqual(self.told(pay), 'loga5 flush writea4 logb0 flush writeb1 flush clear flush')
        self.assertEqual(self.told(pay, [1]), 'loga5 flush writea4 writea5 flush clear flush')
        self.assertEqual(self.told(pay, durable=('b',)), 'logb0 flush writeb1 flush clear flush')
        self.assertEqual(self.told(pay, [1], durable=('b',)), '')
        self.assertEqual(self.told(pay, durable=()), '')
        self.assertEqual(self.told(pay, durable=('b', 'a', 'b')), self.told(pay))
        self.assertEqual(self.told(head + 'def f() { }'), '')
        self.assertEqual(self.told(head + 'def f() { raise k }'), '')
        self.assertEqual(self.told(head + 'def f() { u = 1 return 3 }'), '')
        self.assertEqual(self.told(head + 'def f() { a = a }'), 'loga5 flush writea5 flush clear flush')
        self.assertEqual(self.told(head + 'def f() { a = ? a = g() } def g() { return 8 }', [3]), 'loga5 flush writea3 writea8 flush clear flush')

    def test_undo(self):
        head = 'globals a b kinds k '
        self.assertEqual(self.told(head + 'def f() { try { undo b, a, b { a = 1 raise k } } except k { } }'),
                         'loga5 flush writea1 logb0 flush writeb0 writea5 writeb0 flush clear flush')
        self.assertEqual(self.told(head + 'def f() { undo a, a { raise k } }'), 'loga5 flush writea5 writea5 writea5 flush clear flush')
        self.assertEqual(self.told(head + 'def f(x) { undo u, x, a, u { u = 1 x = 2 raise k } }', entry=(5, 0, 3)), 'loga5 flush writea5 writea5 flush clear flush')
        self.assertEqual(self.told(head + 'def f() { undo a { } undo b { return 1 } }'), '')
        self.assertEqual(self.told(head + 'def f(&p) { undo p, a { p = 7 raise k } }', case=('a',), durable=('a',)),
                         'loga5 flush writea7 writea5 writea5 writea5 flush clear flush')

    def test_cells(self):
        head = 'globals a b kinds k '
        self.assertEqual(self.told(head + 'def f(&p, x) { g(&p) g(&a) u = x g(&u) g(&x) } def g(&r) { r = r + 1 }', entry=(5, 0, 8, 3), case=('p',), durable=('p', 'a')),
                         'logp8 flush writep9 loga5 flush writea6 flush clear flush')
        self.assertEqual(self.told(head + 'def f(&p, &q) { p = 1 q = 2 }', case=('b', 'q'), entry=(5, 0, 9), durable=('q', 'b')),
                         'logb0 flush writeb1 logq9 flush writeq2 flush clear flush')
        self.assertEqual(self.told(head + 'def f(&p, &q) { p = 1 q = 2 }', case=('p', 'p'), entry=(5, 0, 9), durable=('p',)),
                         'logp9 flush writep1 writep2 flush clear flush')
        self.assertEqual(self.told(head + 'def f(x) { x = 1 u = 2 }', entry=(5, 0, 9)), '')

    def test_flush_behind_four_writes(self):
        head = 'globals a b kinds k def f() { '
        for many in range(1, 11):
            writes = ['writea' + str(number) for number in range(many)]
            body = ' '.join('a = ' + str(number) for number in range(many))
            told = []
            for at, one in enumerate(writes):
                told += ['flush'] * (at > 0 and at % 4 == 0) + [one]
            self.assertEqual(self.told(head + body + ' }'), ' '.join(['loga5 flush'] + told + ['flush clear flush']))
            thrown = ['flush'] * (many % 4 == 0) + ['writea5']
            self.assertEqual(self.told(head + body + ' raise k }'), ' '.join(['loga5 flush'] + told + thrown + ['flush clear flush']))
        # The first write of a cell has a flush before it.
        self.assertEqual(self.told(head + 'a = 0 a = 1 a = 2 a = 3 b = 4 b = 5 b = 6 b = 7 a = 8 }'),
                         'loga5 flush writea0 writea1 writea2 writea3 logb0 flush writeb4 writeb5 writeb6 writeb7 flush writea8 flush clear flush')

    def test_flush_in_reverse_order(self):
        text = 'globals a b c d kinds k def f(&p, &q) { a = 1 b = 1 c = 1 d = 1 p = 1 q = 1 raise k }'
        self.assertTrue(self.told(text, entry=(0,) * 6, durable=('a', 'b', 'c', 'd', 'p', 'q'), case=('p', 'q')).endswith(
            'flush writeq1 writeq0 writep0 writed0 flush writec0 writeb0 writea0 flush clear flush'))
        self.assertTrue(self.told(text, entry=(0,) * 6, durable=('a', 'b', 'c', 'd', 'q'), case=('p', 'q')).endswith(
            'flush writeq1 writeq0 writed0 writec0 flush writeb0 writea0 flush clear flush'))

    def test_random(self):
        many = 0
        for start in range(300):
            sample = Sample(start, most=9, words=WRITING)
            for name in sample.names:
                case = sample.case(name)
                cells = sample.program.cells(name, case)
                durable = tuple(sample.chosen.sample(cells, sample.chosen.randint(0, len(cells))))
                entry, choices = sample.entry(name, case), sample.choices(25)
                try:
                    wanted = Writes(sample.tree).events(name, case, entry, choices, durable)
                except TooFar as error:
                    with self.assertRaises(LimitExceeded) as caught:
                        transaction(sample.program, name, case, entry, choices, durable)
                    self.assertEqual(caught.exception.word, str(error))
                    continue
                found = transaction(sample.program, name, case, entry, choices, durable)
                self.assertEqual(found, wanted)
                self.assertIs(type(found), tuple)
                self.check_crashes(sample.program, name, case, entry, *found, durable)
                many += len(found[0]) > 12
        self.assertGreater(many, 20)

    def test_long(self):
        program = Program.read('globals a b kinds k def f() { while { a = a + 1 b = b - a } raise k }')
        events, outcome = transaction(program, 'f', (), (0, 0), [1] * 1500, ('a', 'b'))
        self.assertEqual(outcome[0], 'k')
        self.assertIs(is_safe({'a': 0, 'b': 0}, events), True)
        self.assertIs(is_safe({'a': 0, 'b': 0}, events[:6] + [CLEAR]), False)

    def test_errors(self):
        program = Program.read('globals a kinds k def f(&p, x) { while { } if { f(&p, x) } }')

        def call(name='f', case=('p',), entry=(1, 2, 3), choices=None, durable=('a',)):
            return transaction(program, name, case, entry, [] if choices is None else choices, durable)
        check_function_and_case(self, lambda name, case: call(name, case, None, None, None), none=False)
        for entry in (None, (), (1, 2), (1, 2, 3, 4), [1, 2, 3], (1, 2, True), (1, 2, None), '123', 1):
            with self.assertRaises(InvalidEntry) as caught:
                call(entry=entry, choices=(), durable=None)
            self.assertIs(caught.exception.value, entry)
        for choices in ((), (1,), [True], [None], 1, '', [1.0], {}):
            with self.assertRaises(InvalidChoices) as caught:
                call(choices=choices, durable=None)
            self.assertIs(caught.exception.value, choices)
        endless = [0, 1] * 20
        for durable in (None, [], ['a'], 'a', {'a'}, {'a': 1}, True, 1):
            with self.assertRaises(UnknownName) as caught:
                call(choices=endless, durable=durable)
            self.assertIs(caught.exception.name, durable)
        for durable, wrong in ((('b',), 'b'), (('a', 'x'), 'x'), (('p', None, 'zz'), None), ((1,), 1), (('a', ['a']), ['a']), (({},), {}), (('k', 'b'), 'k'), ((ANY,), ANY), ((True,), True),
                               ((('a',),), ('a',)), (('',), '')):
            with self.assertRaises(UnknownName) as caught:
                call(choices=endless, durable=durable)
            self.assertEqual(caught.exception.name, wrong)
        with self.assertRaises(UnknownName):
            call(case=('a',), entry=(1, 2), durable=('p',))
        with self.assertRaises(LimitExceeded) as caught:
            call(choices=endless)
        self.assertEqual(caught.exception.word, 'calls')
        with self.assertRaises(LimitExceeded) as caught:
            transaction(Program.read('globals a def f() { while { a = 1 } }'), 'f', (), (0,), [1] * 4000, ('a',))
        self.assertEqual(caught.exception.word, 'steps')
        self.assertEqual(transaction(durable=('a',), choices=[], entry=(1, 2, 3), case=('p',), name='f', program=program)[0], [])


class TestDatabase(unittest.TestCase):
    TEXT = ('globals b a kinds k l def pay(x) { a = a - x risk k b = b + x return a } def move(&p, &q) { p = p - 1 q = q + 1 risk l } '
            'def many() { while { a = a + b b = a risk k, l } } def deep() { deep() } def see() { return a + b }')

    def test_performs(self):
        program = Program.read(self.TEXT)
        machine = Machine(program)
        chosen = random.Random(3)
        base = Database(program, {'a': 10, 'b': 20})
        told = []
        for _ in range(120):
            name = chosen.choice(('pay', 'move', 'many', 'see', 'pay'))
            case = chosen.choice(program.cases(name))
            rest = tuple(chosen.randint(-5, 5) for _ in range(len(program.cells(name, case)) - 2 + (name == 'pay')))
            choices = [chosen.choice((0, 0, 1, 2)) for _ in range(chosen.randint(0, 6))]
            before = base.current()
            entry = (before['b'], before['a']) + rest
            outcome = machine(name, case, entry, choices)
            self.assertEqual(base.perform(name, case, rest, choices), outcome[:2] + outcome[3:4])
            wanted = dict(zip(program.globals, outcome[2])) if outcome[0] is None else before
            self.assertEqual(base.current(), wanted)
            told += transaction(program, name, case, entry, choices, ('a', 'b'))[0]
            self.assertEqual(base.events(), told)
        self.assertGreater(len(told), 300)
        self.assertGreater(len({base.perform('pay', (), (number,), [number])[0] for number in range(4)}), 1)

    def test_crashed(self):
        program = Program.read(self.TEXT)
        first = {'a': 1, 'b': 2}
        base = Database(values=first, program=program)
        states = [(0, base.current())]
        for args in (('pay', (), (3,), []), ('pay', (), (4,), [1]), ('many', (), (), [1, 0, 1, 2]), ('many', (), (), [1, 0, 1, 0, 1, 0]), ('move', ('a', 'b'), (), []),
                     ('see', (), (), []), ('move', ('p', 'p'), (7,), [])):
            base.perform(*args)
            states.append((len(base.events()), base.current()))
        events = base.events()
        self.assertEqual([event for event in events if event[0] in ('log', 'write') and event[1] not in ('a', 'b')], [])
        for number in range(len(events) + 1):
            found = list(base.crashed(number))
            self.assertEqual(found, [undone(*left) for left in crashes_of(first, events[:number])])
            near = [one for at, one in states if at <= number][-1:] + [one for at, one in states if at >= number][:1]
            for one in found:
                self.assertIn(one, near)
        self.assertEqual(list(base.crashed(number=0)), [first])
        for number in (None, -1, len(events) + 1, True, False, 1.0, '1', [1], (), {}, 10 ** 40):
            with self.assertRaises(InvalidEvent) as caught:
                list(base.crashed(number))
            self.assertIs(caught.exception.value, number)

    def test_its_own(self):
        program = Program.read(self.TEXT)
        values = {'a': 1, 'b': 2}
        base = Database(program, values)
        values.clear()
        base.current().clear()
        base.perform(choices=[], rest=(3,), case=(), name='pay')
        events = base.events()
        self.assertEqual(base.current(), {'a': -2, 'b': 5})
        base.events().clear()
        events.append(FLUSH)
        self.assertEqual(base.events(), events[:-1])
        for one in base.crashed(len(events) - 1):
            one.clear()
        self.assertEqual(list(base.crashed(len(events) - 1)), [{'a': -2, 'b': 5}])
        self.assertEqual(list(base.crashed(0)), [{'a': 1, 'b': 2}])
        empty = Database(Program.read('kinds k def f() { raise k }'), {})
        self.assertEqual((empty.perform('f', (), (), []), empty.current(), empty.events(), list(empty.crashed(0))), (('k', 0, 0), {}, [], [{}]))

    def test_errors(self):
        program = Program.read(self.TEXT)
        for values in NO_VALUES + ({}, {'a': 1}, {'b': 1}, {'a': 1, 'b': 2, 'c': 3}, {'a': 1, 'c': 2}, {'a': 1, 'b': True}):
            with self.assertRaises(InvalidValues) as caught:
                Database(program, values)
            self.assertIs(caught.exception.value, values)
        self.assertEqual(Database(program, {'b': 1, 'a': 2}).current(), Database(program, {'a': 2, 'b': 1}).current())
        base = Database(program, {'a': 1, 'b': 2})
        base.perform('pay', (), (1,), [])
        before = base.current(), base.events()
        for name in NO_NAMES[1:]:
            if name != 'a':
                with self.assertRaises(UnknownFunction) as caught:
                    base.perform(name, None, None, None)
                self.assertIs(caught.exception.name, name)
        check_function_and_case(self, lambda name, case: base.perform(name, case, None, None), 'move', ('p', 'q'), none=False)
        for rest in (None, [1], 1, 'x', True, {}):
            with self.assertRaises(InvalidEntry) as caught:
                base.perform('pay', (), rest, None)
            self.assertIs(caught.exception.value, rest)
        for rest in ((), (1, 2), (True,), (None,), ('1',), ([1],)):
            with self.assertRaises(InvalidEntry) as caught:
                base.perform('pay', (), rest, None)
            self.assertEqual(caught.exception.value, (3, 0) + rest)
        for choices in (None, (), [True], 0):
            with self.assertRaises(InvalidChoices) as caught:
                base.perform('pay', (), (1,), choices)
            self.assertIs(caught.exception.value, choices)
        for name, choices, word in (('deep', [], 'calls'), ('many', [1, 0] * 2000, 'steps')):
            with self.assertRaises(LimitExceeded) as caught:
                base.perform(name, (), (), choices)
            self.assertEqual(caught.exception.word, word)
        self.assertEqual((base.current(), base.events()), before)

    def test_stands_in_the_class(self):
        for name in ('perform', 'current', 'log', 'pending', 'crashes', 'recovered'):
            self.assertIn(name, vars(Store))
        for name in ('perform', 'current', 'events', 'crashed'):
            self.assertIn(name, vars(Database))
