"""What differs between two programs, beside their verdicts and their runs."""

import unittest

from allornothing.changes import changes, stale, worse
from allornothing.errors import TooLarge
from allornothing.machine import Machine
from allornothing.programs import Program
from allornothing.rows import reduced
from allornothing.summaries import Analysis
from allornothing.verdicts import changed_cells, verdicts
from samples import Sample
from test_rewrites import mapped, worst
from test_summaries import flat
from test_verdicts import keeps_at

RANKS = ('never', 'same', 'sound', 'changed')
REST = ' def g() { f() a = a + 1 } def h() { risk k }'
OLD = 'globals a kinds k def f() { risk k a = a - 1 }' + REST
NEW = 'globals a kinds k def f() { a = a - 1 risk k }' + REST


def changes_by_hand(old, new):
    found = []
    for name in new.functions:
        if name in old.functions:
            before, after = worst(old, name), worst(new, name)
            for kind in list(new.kinds) + [kind for kind in old.kinds if kind not in new.kinds]:
                pair = before.get(kind, 'never'), after.get(kind, 'never')
                if pair[0] != pair[1]:
                    found.append((name, kind) + pair)
    return found


def summary(program, name):
    """The reduced rows of a function, by case and by ending: None, or the kind."""
    found = {}
    analysis = Analysis(program)
    for case in program.cases(name):
        told = {None: analysis.returns(name, case)}
        for (_, kind), runs in analysis.leaves(name, case).items():
            told[kind] = told.get(kind, []) + runs
        for kind, runs in told.items():
            if runs:
                rows = [flat(matrix) for matrix, _ in runs]
                found[case, kind] = reduced(rows, len(rows[0]))
    return found


def stale_by_hand(old, new):
    """By the words of the document, until nothing is added."""
    if old.globals != new.globals:
        return sorted(new.functions)
    groups = {name: [one for one in new.functions if one == name or (one in new.reached(name) and name in new.reached(one))] for name in new.functions}
    found, many = set(), -1
    while many != len(found):
        many = len(found)
        for name in new.functions:
            for one in groups[name]:
                if one not in old or old[one] != new[one]:
                    found.add(name)
                for called in new.callees(one):
                    if called not in groups[name] and called in found and (called not in old or summary(old, called) != summary(new, called)):
                        found.add(name)
    return sorted(found)


class Checked(unittest.TestCase):
    def check(self, old, new):
        """Check all that is told of two programs; return the changes."""
        found = changes(old, new)
        self.assertEqual(found, changes_by_hand(old, new))
        told = worse(old, new)
        self.assertEqual([one[:4] for one in told], [one for one in found if RANKS.index(one[3]) > RANKS.index(one[2])])
        for one in told:
            self.check_run(new, *one)
        self.assertEqual(stale(old, new), stale_by_hand(old, new), (old.tree(), new.tree()))
        self.check_not_stale(old, new)
        return found

    def check_run(self, program, name, kind, before, after, place, entry, choices):
        found = verdicts(Analysis(program), name)
        self.assertEqual(place, min(at for (at, other), verdict in found.items() if other == kind and verdict == after))
        self.assertIs(type(entry), tuple)
        self.assertIs(type(choices), tuple)
        run = Machine(program)(name, tuple(program.places(name)), entry, list(choices))
        self.assertEqual((run[0], run[1], run[4]), (kind, place, len(choices)))
        is_changed = run[2] != entry[:len(run[2])]
        if after == 'same':
            self.assertFalse(is_changed)
        else:
            self.assertTrue(is_changed)
        if after == 'changed' and program.keeps:
            self.assertFalse(any(keeps_at(program, entry)))
            self.assertTrue(any(keeps_at(program, run[2])))

    def check_not_stale(self, old, new):
        """What is not stale has the same summary, and the same changed cells for each kind."""
        anew = stale(old, new)
        for name in new.functions:
            if name in anew:
                continue
            self.assertEqual(summary(new, name), summary(old, name))
            for case in new.cases(name):
                cells = []
                for program in (old, new):
                    analysis = Analysis(program)
                    cells.append(sorted({(kind, cell) for place, kind in verdicts(analysis, name, case)
                                         for cell in changed_cells(analysis, name, place, kind, case)}))
                self.assertEqual(cells[0], cells[1])

    def check_texts(self, old, new):
        return self.check(Program.read(old), Program.read(new))


class TestChanges(Checked):
    def test_example(self):
        old, new = Program.read(OLD), Program.read(NEW)
        self.assertEqual(changes(old, new)[0], ('f', 'k', 'same', 'changed'))
        self.assertEqual([told[:5] for told in worse(old, new)], [('f', 'k', 'same', 'changed', 1), ('g', 'k', 'same', 'changed', 0)])
        self.assertEqual(stale(old, new), ['f', 'g'])
        self.check(old, new)
        self.check(new, old)
        self.assertEqual(changes(new=new, old=old), changes(old, new))
        self.assertEqual(worse(new=new, old=old), worse(old, new))
        self.assertEqual(stale(new=new, old=old), stale(old, new))
        for call in (changes, worse, stale):
            call(old, new).clear()
            self.assertTrue(call(old, new))

    def test_equal_programs(self):
        empty = Program.read('')
        self.assertEqual((changes(empty, empty), worse(empty, empty), stale(empty, empty)), ([], [], []))
        for start in range(60):
            sample = Sample(start)
            other = Program(sample.tree)
            self.assertEqual((changes(sample.program, other), worse(sample.program, other), stale(sample.program, other)), ([], [], []))

    def test_all_ranks(self):
        bodies = {'never': 'a = a + 1 b = b - 1', 'same': 'risk k', 'sound': 'a = a + 1 b = b - 1 risk k', 'changed': 'a = a + 1 risk k'}
        for before, one in bodies.items():
            for after, other in bodies.items():
                head = 'globals a b kinds k keep a + b def f(&p, x) { '
                found = self.check_texts(head + one + ' }', head + other + ' }')
                self.assertEqual(found, [] if before == after else [('f', 'k', before, after)])

    def test_worst_of_several_places(self):
        old = 'globals a kinds k l def f() { risk k, l a = 1 risk l }'
        new = 'globals a kinds k l def f() { risk l a = 1 if { risk k } risk k, l a = 2 risk k }'
        self.assertEqual(self.check_texts(old, new), [('f', 'k', 'same', 'changed')])
        self.assertEqual(worse(Program.read(old), Program.read(new))[0][4], 3)
        new = 'globals a kinds k l keep a def f() { risk k a = 0 risk k a = 1 risk k a = 0 raise k }'
        old = 'globals a kinds k l keep a def f() { }'
        self.assertEqual(worse(Program.read(old), Program.read(new))[0][:5], ('f', 'k', 'never', 'changed', 4))
        new = new.replace('a = 1', 'a = 0')
        self.assertEqual(worse(Program.read(old), Program.read(new))[0][:5], ('f', 'k', 'never', 'sound', 2))
        self.check_texts(old, new)

    def test_kinds(self):
        old = 'globals a kinds l k m def f() { a = 1 risk k, l, m } def g() { risk m }'
        for new, wanted in (('globals a kinds k n def f() { risk k a = 1 risk n }', [('f', 'k', 'changed', 'same'), ('f', 'n', 'never', 'changed'),
                                                                                     ('f', 'l', 'changed', 'never'), ('f', 'm', 'changed', 'never')]),
                            ('globals a def g() { } def f() { }', [('g', 'm', 'same', 'never'), ('f', 'l', 'changed', 'never'), ('f', 'k', 'changed', 'never'),
                                                                   ('f', 'm', 'changed', 'never')]),
                            ('globals a kinds m k l def h() { risk m } def f() { a = 1 risk k, l, m }', [])):
            self.assertEqual(self.check_texts(old, new), wanted)
            self.check_texts(new, old)

    def test_other_keeps(self):
        body = 'def f() { a = a + 1 b = b + 1 risk k }'
        heads = ('globals a b kinds k ', 'globals a b kinds k keep a - b ', 'globals a b kinds k keep a ', 'globals a b kinds k keep b keep a ')
        for old in heads:
            for new in heads:
                self.check_texts(old + body, new + body)
                self.assertEqual(stale(Program.read(old + body), Program.read(new + body)), [])


class TestStale(Checked):
    def told(self, old, new):
        self.check_texts(old, new)
        return ' '.join(stale(Program.read(old), Program.read(new)))

    def test_callers(self):
        head = 'globals a b kinds k l '
        old = head + 'def f() { a = a + 1 } def g() { f() } def h() { g() } def i() { b = 1 }'
        self.assertEqual(self.told(old, old), '')
        # The text of f is another one, but not what it does.
        self.assertEqual(self.told(old, old.replace('a = a + 1', 'a = a + 2 a = a - 1')), 'f')
        self.assertEqual(self.told(old, old.replace('a = a + 1', 'a = a + 2')), 'f g h')
        self.assertEqual(self.told(old, old.replace('{ f() }', '{ f() if { } }')), 'g')
        self.assertEqual(self.told(old, old.replace('{ f() }', '{ f() return 1 }')), 'g h')
        # What h does is the same whatever f throws, since g catches it.
        old = head + 'def f() { a = 1 risk k } def g() { try { f() } except k { } a = 0 } def h() { g() }'
        self.assertEqual(self.told(old, old.replace('a = 1', 'a = 2')), 'f g')
        self.assertEqual(self.told(old, old.replace('risk k', 'risk l')), 'f g h')

    def test_functions_more_or_less(self):
        head = 'globals a kinds k '
        old = head + 'def f() { a = 1 } def g() { f() }'
        self.assertEqual(self.told(old, head + 'def g() { f() } def f() { a = 1 }'), '')
        self.assertEqual(self.told(old, head + 'def f() { a = 1 }'), '')
        self.assertEqual(self.told(old, old + ' def h() { g() }'), 'h')
        self.assertEqual(self.told(head + 'def f() { }', head + 'def f() { g() } def g() { h() } def h() { }'), 'f g h')
        self.assertEqual(self.told(head, old), 'f g')
        self.assertEqual(self.told(old, head), '')
        self.assertEqual(self.told(head + 'def f(x) { a = x } def g() { f(1) }', head + 'def f(y) { a = y } def g() { f(1) }'), 'f')
        self.assertEqual(self.told(head + 'def f(x) { a = x } def g() { f(1) }', head + 'def f(x, y) { a = x } def g() { f(1, 2) }'), 'f g')

    def test_globals_and_kinds(self):
        body = ' kinds k def f() { a = 1 } def g() { }'
        self.assertEqual(self.told('globals a b' + body, 'globals b a' + body), 'f g')
        self.assertEqual(self.told('globals a b' + body, 'globals a' + body), 'f g')
        self.assertEqual(self.told('globals a' + body, 'globals a' + body.replace('kinds k', 'kinds l m')), '')

    def test_groups(self):
        head = 'globals a b kinds k '
        old = head + 'def f() { if { g() } a = 1 } def g() { if { f() } else { h() } } def h() { b = 1 } def i() { f() }'
        self.assertEqual(self.told(old, old.replace('a = 1', 'a = 1 a = 1')), 'f g')
        self.assertEqual(self.told(old, old.replace('a = 1', 'a = 2')), 'f g i')
        self.assertEqual(self.told(old, old.replace('b = 1', 'b = 2')), 'f g h i')
        self.assertEqual(self.told(old, old.replace('b = 1', 'u = 1 b = u')), 'h')
        self.assertEqual(self.told(old, old.replace('{ h() }', '{ h() h() }')), 'f g')
        # One that calls itself reaches as many as one that calls only that.
        old = head + 'def g() { f() } def f() { if { f() } a = 1 }'
        self.assertEqual(self.told(old, old.replace('a = 1', 'a = 2')), 'f g')
        self.assertEqual(self.told(old, old.replace('a = 1', 'a = 1 if { }')), 'f')
        old = head + 'def i() { h() } def h() { g() } def g() { if { f() } } def f() { if { g() } a = a + 1 }'
        self.assertEqual(self.told(old, old.replace('a + 1', 'a + 2')), 'f g')
        self.assertEqual(self.told(old, old.replace('a + 1', 'b')), 'f g h i')


class TestRandom(Checked):
    def test_one_body_changed(self):
        many = 0
        for start in range(150):
            sample = Sample(start, functions=5, most=3, depth=2, words=('set', 'set', 'call', 'call', 'if', 'risk', 'try', 'undo', 'with', 'while'))
            name = sample.chosen.choice(sample.names)
            other = sample.function(name)
            functions = tuple(other if one[0] == name else one for one in sample.tree[3])
            try:
                new = Program(sample.tree[:3] + (functions,))
            except TooLarge:
                continue
            many += len(self.check(sample.program, new))
        self.assertGreater(many, 40)

    def test_rewritten(self):
        """One function more or less, others in another order, statements that do nothing."""
        for start in range(200, 280):
            sample = Sample(start, functions=4, most=3, depth=2)

            def longer(statement):
                return [('if', (), ()), statement] if sample.chosen.random() < 0.1 else [statement]
            functions = list(sample.tree[3])
            sample.chosen.shuffle(functions)
            more = (('zz', (), (('risk', sample.kinds[:1]),)),)
            try:
                new = Program(mapped(sample.tree[:3] + (tuple(functions) + more,), longer))
                old = Program(sample.tree[:1] + (sample.tree[1] + ('other',),) * (len(sample.kinds) < 3) + sample.tree[1:2] * (len(sample.kinds) == 3) + sample.tree[2:])
            except TooLarge:
                continue
            self.check(old, new)
            self.check(new, old)
