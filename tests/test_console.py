"""The console beside the functions that it calls."""

import unittest

from allornothing.changes import changes
from allornothing.console import Console
from allornothing.errors import (InvalidCommand, InvalidEntry, InvalidFinally, InvalidQuestion, InvalidSyntax, InvalidText, LimitExceeded, TooLarge,
                                 UnknownFunction, UnknownName, WrongArguments)
from allornothing.logs import fewest
from allornothing.machine import Machine
from allornothing.orders import cheapest
from allornothing.printing import show
from allornothing.programs import Program
from allornothing.questions import ask, rows_of
from samples import Sample

TEXT = ('globals a b kinds k l keep a + b def pay(x) { a = a - x risk k b = b + x risk l } def pair(&p, &q) { p = p + 1 u = q p = p - 1 q = u risk k } '
        'def none() { return 3 } def many(x, y) { ' + 'if { } ' * 9 + '} def loop() { while { } loop() }')


def ready(text=TEXT):
    console = Console()
    assert console.execute('program ' + text) == 'ok'
    return console


class TestAnswers(unittest.TestCase):
    def test_example(self):
        console = Console()
        words = ['program globals a b kinds k', 'define pay() { a = a - 1 risk k b = b + 1 }', 'order pay', 'run pay 5,0 1', 'define pay() { risk k }', 'back']
        self.assertEqual([console.execute(word) for word in words], ['ok', '-', '-\n1 0 2', 'throws k 1\n4 0', 'pay k changed same', 'ok'])

    def test_show(self):
        console = Console()
        self.assertEqual(console.execute('show'), '-')
        self.assertEqual(console.execute(command='program globals a b'), 'ok')
        self.assertEqual(console.execute('show'), 'globals a b')
        self.assertEqual(ready().execute('show'), show(Program.read(TEXT).tree())[:-1])
        self.assertEqual(ready('def f() { }').execute('show'), 'def f() {\n}')

    def test_program(self):
        console = ready()
        self.assertEqual(console.execute('program kinds k'), 'ok')
        self.assertEqual(console.execute('show'), 'kinds k')

    def test_verdicts(self):
        console = ready()
        self.assertEqual(console.execute('verdicts pay'), '1 k changed a\n3 l sound a b')
        self.assertEqual(console.execute('verdicts pair'), '4 k same -')
        self.assertEqual(console.execute('verdicts none'), '-')
        self.assertEqual(ready('globals a b kinds l k def f() { b = 1 risk l, k a = 1 risk k }').execute('verdicts f'), '1 k changed b\n1 l changed b\n3 k changed a b')

    def test_logs_and_order(self):
        console = ready()
        self.assertEqual([console.execute('logs ' + name) for name in ('pay', 'pair', 'none')], ['a b', 'p', '-'])
        self.assertEqual([console.execute('order ' + name) for name in ('pay', 'pair', 'none')], ['-\n1 3 0 2', '-\n0 1 2 3 4', '-\n0'])
        self.assertEqual(ready('globals a kinds k def f() { }').execute('order f'), '-\n-')
        self.assertEqual(ready('globals a b kinds k def f() { g(a) a = 1 b = a g(a) } def g(x) { risk k }').execute('order f'), 'a\n0 1 3 2')
        self.assertEqual(ready('globals a b kinds k def f() { a = 1 b = a g(b) } def g(x) { risk k }').execute('order f'), 'a b\n0 1 2')

    def test_run(self):
        console = ready()
        for command, answer in (('run pay 5,0,2 -', 'returns 0\n3 2'), ('run pay 5,0,2 1', 'throws k 1\n3 0'), ('run pay -5,0,-2 0,1', 'throws l 3\n-3 -2'),
                                ('run none 7,8 -', 'returns 3\n7 8'), ('run none 7,8 1,2,3', 'returns 3\n7 8'), ('run pair 1,2,3,4 0', 'returns 0\n1 2 3 4'),
                                ('run pay 999999999999,-999999999999,0 -', 'returns 0\n999999999999 -999999999999'), ('run pay 0,0,0 -1', 'throws k 1\n0 0')):
            self.assertEqual(console.execute(command), answer)
        self.assertEqual(ready('kinds k def f() { risk k }').execute('run f - 1'), 'throws k 0\n-')
        self.assertEqual(ready('kinds k def f() { risk k return 10 }').execute('run f - -'), 'returns 10\n-')

    def test_ask(self):
        console = ready()
        for question, answer in (('some any', 'yes'), ('no any', 'no'), ('count any', '3'), ('count kind k', '2'), ('count not any', '0'), ('count place 3', '1'),
                                 ('every kind l then changes b', 'yes'), ('some (kind k and changes b)', 'no')):
            self.assertEqual(console.execute('ask ' + question), answer)
        self.assertEqual(Console().execute('ask some any'), 'no')

    def test_define(self):
        console = ready('globals a kinds k l')
        self.assertEqual(console.execute('define f() { risk k }'), '-')
        self.assertEqual(console.execute('show'), 'globals a\nkinds k l\ndef f() {\n  risk k\n}')
        self.assertEqual(console.execute('define g() { f() } def h() { a = 1 g() }'), '-')
        self.assertEqual(console.execute('define f() { risk l a = 1 risk k }'), 'f k same changed\nf l never same\ng k same changed\ng l never same\nh l never changed')
        self.assertEqual(console.execute('define f() { raise k } def f() { }'), 'f k changed never\nf l same never\ng k changed never\ng l same never\nh k changed never\nh l changed never')
        self.assertEqual(console.execute('show'), 'globals a\nkinds k l\ndef f() {\n}\ndef g() {\n  f()\n}\ndef h() {\n  a = 1\n  g()\n}')

    def test_back(self):
        console = Console()
        self.assertEqual(console.execute('back'), 'no')
        shown = ['-']
        for command in ('program globals a kinds k', 'define f() { risk k }', 'define f() { a = 1 risk k } def g() { }', 'program globals b', 'define f() { }'):
            console.execute(command)
            shown.append(console.execute('show'))
            self.refuse(console)
            self.assertEqual(console.execute('show'), shown[-1])
        for text in shown[-2::-1]:
            self.refuse(console)
            self.assertEqual(console.execute('back'), 'ok')
            self.assertEqual(console.execute('show'), text)
        self.assertEqual([console.execute('back') for _ in range(3)], ['no'] * 3)
        self.assertEqual(console.execute('program globals c'), 'ok')
        self.assertEqual(console.execute('back'), 'ok')
        self.assertEqual((console.execute('back'), console.execute('show')), ('no', '-'))

    def refuse(self, console):
        for command in ('program globals', 'define f() { zz = b + c + a }', 'define', 'back 1', 'program keep zz', 'define h() { } def h() { h(1) }', None, 'show show',
                        'define i() { } def j( { }', 'run zz 1 1', 'logs zz', 'ask some'):
            with self.assertRaises((InvalidSyntax, UnknownName, InvalidCommand, WrongArguments, UnknownFunction, InvalidQuestion)):
                console.execute(command)

    def test_a_program_each(self):
        one, other = Console(), Console()
        one.execute('program globals a')
        self.assertEqual((one.execute('show'), other.execute('show')), ('globals a', '-'))

    def test_random(self):
        for start in range(80):
            sample = Sample(start, functions=3, most=5)
            program = sample.program
            text = ' '.join(show(program.tree()).split())
            console = ready(text)
            self.assertEqual(console.execute('show') + '\n', show(program.tree()))
            for name in sample.names:
                rows = [row for row in rows_of(program) if row[0] == name]
                lines = [' '.join([str(row[1]), row[2], row[3]] + (list(row[4]) or ['-'])) for row in rows]
                self.assertEqual(console.execute('verdicts ' + name), '\n'.join(lines) or '-')
                self.assertEqual(console.execute('logs ' + name), ' '.join(fewest(program, name)) or '-')
                if name not in program.reached(name):
                    cells, order = cheapest(program, name)
                    self.assertEqual(console.execute('order ' + name), (' '.join(cells) or '-') + '\n' + (' '.join(map(str, order)) or '-'))
                case = tuple(program.places(name))
                entry, choices = sample.entry(name, case), sample.choices()
                command = 'run ' + name + ' ' + (','.join(map(str, entry)) or '-') + ' ' + (','.join(map(str, choices)) or '-')
                try:
                    kind, place, cells, result, _ = Machine(program)(name, case, entry, choices)
                except LimitExceeded:
                    with self.assertRaises(LimitExceeded):
                        console.execute(command)
                    continue
                first = f'returns {result}' if kind is None else f'throws {kind} {place}'
                self.assertEqual(console.execute(command), first + '\n' + (' '.join(map(str, cells)) or '-'))
            self.assertEqual(console.execute('ask count any'), str(ask(program, 'count any')))
            other = Sample(start + 1000, functions=1).tree[3][0]
            text = ' '.join(show(((), (), (), (other,))).split())[len('def '):]
            try:
                new = program.replaced(other)
            except Exception as error:
                with self.assertRaises(type(error)):
                    console.execute('define ' + text)
                self.assertEqual(console.execute('show') + '\n', show(program.tree()))
                continue
            self.assertEqual(console.execute('define ' + text), '\n'.join(' '.join(one) for one in changes(program, new)) or '-')
            self.assertEqual(console.execute('show') + '\n', show(new.tree()))


class TestErrors(unittest.TestCase):
    def refused(self, command, error, console=None):
        with self.assertRaises(error) as caught:
            (console or ready()).execute(command)
        return caught.exception

    def test_commands(self):
        for command in (None, True, 0, 1.5, b'show', ['show'], ('show',), {}, object(), '', ' ', 'show ', ' show', 'show\n', '\nshow', 'ask  some any', 'ask some  any', 'ask some any ',
                        'program globals a\nkinds k', 'run f - -\n', 'zz ', ' zz', 'zz\n', '\n'):
            self.assertIsNone(self.refused(command, InvalidCommand).word)
        for command in ('zz', 'Show', 'showw', 'quit', '-', 'def f() { }', 'zz show', 'show show', 'show -', 'back 1', 'back back', 'program', 'define', 'ask', 'verdicts', 'verdicts f g',
                        'logs', 'logs pay pay', 'order', 'order pay 1', 'run', 'run pay', 'run pay 1,2,3', 'run pay 1,2,3 - -', 'verdicts zz zz', 'run zz zz zz zz'):
            self.assertEqual(self.refused(command, InvalidCommand).word, command.split(' ')[0])

    def test_functions(self):
        for command in ('verdicts zz', 'logs zz', 'order zz', 'run zz - -', 'run zz x y', 'run zz 1,1 1', 'verdicts a', 'logs k', 'order 1', 'run - - -', 'logs Pay'):
            self.assertEqual(self.refused(command, UnknownFunction).name, command.split(' ')[1])
        self.assertEqual(self.refused('verdicts f', UnknownFunction, Console()).name, 'f')

    def test_integers(self):
        for word in ('', '--1', '1,', ',1', '1,,2', '01', '1,02', '-0', '-01', '+1', '1.0', 'x', '1,x', '1-', '1-2', '-,1', '1,-', '1234567890123', '-1234567890123', '1,1234567890123', '0x1',
                     '1e3', '1_000', '00', '-00', '1;2', ',', '--'):
            if word:
                for command in ('run pay ' + word + ' -', 'run pay ' + word + ' y', 'run none 7,8 ' + word, 'run none 1 ' + word):
                    self.assertEqual(self.refused(command, InvalidText).value, word)
        self.assertEqual(self.refused('run pay x y', InvalidText).value, 'x')
        for word, entry in (('-', ()), ('1', (1,)), ('1,2,3,4', (1, 2, 3, 4)), ('-1,0', (-1, 0))):
            self.assertEqual(self.refused('run pay ' + word + ' -', InvalidEntry).value, entry)
        self.assertEqual(self.refused('run loop 0,0 -', LimitExceeded).word, 'calls')

    def test_as_the_functions(self):
        self.assertEqual(self.refused('program globals a def f() { zz }', InvalidSyntax).position, 23)
        self.assertEqual(self.refused('program keep zz', UnknownName).name, 'zz')
        self.assertEqual(self.refused('program globals', InvalidSyntax).position, 7)
        self.assertEqual(self.refused('define f', InvalidSyntax).position, 5)
        self.assertEqual(self.refused('ask some', InvalidQuestion).position, 4)
        self.assertEqual(self.refused('ask zz', InvalidQuestion).position, 0)
        self.assertEqual(self.refused('ask some place 1234567890123', TooLarge).word, 'numbers')
        self.assertEqual(self.refused('ask some function zz', UnknownFunction).name, 'zz')
        self.assertEqual(self.refused('ask some kind zz', UnknownName).name, 'zz')
        self.assertEqual(self.refused('order many', TooLarge).word, 'items')

    def test_define(self):
        # Positions count from the start of def.
        for words, position in (('f( { }', 7), ('f() { } zz', 12), ('', None), ('{ }', 4), ('f() { } def', 15), ('f() { a = }', 14), ('f() { } globals a', 12), ('1', 4), ('if() { }', 4)):
            if words:
                self.assertEqual(self.refused('define ' + words, InvalidSyntax).position, position)
                try:
                    Program.read('def ' + words)
                except InvalidSyntax as error:
                    self.assertEqual(error.position, position)
        console = ready()
        for words, error in (('none() { zz = 1 raise m }', UnknownName), ('new() { old() } def old() { }', UnknownName), ('pay() { } def pay(x) { new() }', UnknownName),
                             ('pay() { pay(1) }', WrongArguments), ('f() { try { } finally { return 1 } }', InvalidFinally), ('f(x, y, z, w) { }', TooLarge), ('f() { } def g() { }', TooLarge),
                             ('f() { a = 1234567890123 }', TooLarge)):
            self.refused('define ' + words, error, console)
            self.assertEqual(console.execute('show'), ready().execute('show'))
        self.assertEqual(console.execute('define old() { }'), '-')
        self.assertEqual((console.execute('back'), console.execute('back'), console.execute('back')), ('ok', 'ok', 'no'))

    def test_stands_in_the_class(self):
        self.assertIn('execute', vars(Console))
