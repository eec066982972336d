import unittest

from allornothing.campaigns import campaign, exposed
from allornothing.errors import InvalidCase, InvalidChoices, InvalidEntry, LimitExceeded, UnknownFunction
from allornothing.machine import Machine
from allornothing.programs import Program
from oracle import Oracle, TooFar
from samples import Sample


def wanted(tree, args, most):
    """The pairs of a campaign, found by the second interpreter."""
    risks = {}
    for name, _, block in tree[3]:
        for place, statement in Program(tree).statements(name):
            risks[name, place] = statement[1]

    def further(injections, start):
        passings = Oracle(tree, injections).run(*args)[5]
        for at in range(start, len(passings)):
            kinds = []
            for kind in risks[passings[at]]:
                if kind not in kinds:
                    kinds.append(kind)
                    more = injections + [passings[at] + (passings[:at + 1].count(passings[at]), kind)]
                    yield more, Oracle(tree, more).run(*args)[:5]
                    if len(more) < most:
                        yield from further(more, at + 1)
    return list(further([], 0))


class TestCampaign(unittest.TestCase):
    def test_example(self):
        program = Program.read('globals a kinds k l def f() { risk l a = a + 1 try { risk k } except k { a = a - 1 risk l } }')
        self.assertEqual([told[0] for told in campaign(program, 'f', (), (0,), [])],
                         [[('f', 0, 1, 'l')], [('f', 3, 1, 'k')]])
        self.assertEqual(exposed(program, 'f', (), (0,), [], most=2), [])
        self.assertEqual([told for told, _ in campaign(program, 'f', (), (0,), [], most=2)],
                         [[('f', 0, 1, 'l')], [('f', 3, 1, 'k')], [('f', 3, 1, 'k'), ('f', 5, 1, 'l')]])

    def test_random(self):
        many = 0
        for start in range(300):
            sample = Sample(start, depth=2)
            name = sample.names[0]
            case = sample.case(name)
            args = (name, case, sample.entry(name, case), sample.choices(6))
            given = list(args[3])
            for most in (0, 1, 2, 3):
                try:
                    expected = wanted(sample.tree, args, most)
                except TooFar:
                    with self.assertRaises(LimitExceeded):
                        list(campaign(sample.program, *args, most=most))
                    with self.assertRaises(LimitExceeded):
                        exposed(sample.program, *args, most=most)
                    continue
                self.assertEqual(list(campaign(sample.program, *args, most=most)), expected)
                if most == 1:
                    self.assertEqual(list(campaign(sample.program, *args)), expected)
                left = {(place, kind) for _, (kind, place, cells, _, _) in expected
                        if kind is not None and cells != args[2][:len(cells)]}
                self.assertEqual(exposed(sample.program, *args, most=most), sorted(left))
                if most == 1:
                    self.assertEqual(exposed(sample.program, *args), sorted(left))
                many += len(expected)
            self.assertEqual(args[3], given)
        self.assertGreater(many, 500)

    def test_a_kind_twice(self):
        program = Program.read('kinds k l def f() { risk l, k, l, k }')
        self.assertEqual([told for told, _ in campaign(program, 'f', (), (), [])], [[('f', 0, 1, 'l')], [('f', 0, 1, 'k')]])

    def test_a_risk_that_throws(self):
        program = Program.read('globals a kinds k l def f() { a = 1 risk k, l risk l }')
        self.assertEqual(list(campaign(program, 'f', (), (0,), [1])),
                         [([('f', 1, 1, 'k')], ('k', 1, (1,), 0, 0)), ([('f', 1, 1, 'l')], ('l', 1, (1,), 0, 0))])

    def test_no_risk(self):
        program = Program.read('globals a kinds k def f() { a = 1 raise k }')
        self.assertEqual(list(campaign(program, 'f', (), (0,), [], most=3)), [])
        self.assertEqual(exposed(program, 'f', (), (0,), []), [])

    def test_several(self):
        program = Program.read('globals a kinds k def f() { while { try { risk k } except k { a = a + 1 } } }')
        found = list(campaign(program, 'f', (), (0,), [1, 0, 1, 0, 1, 0], most=3))
        for injections, outcome in found:
            self.assertEqual([one[2] for one in injections], sorted({one[2] for one in injections}))
            self.assertLessEqual(len(injections), 3)
        # An injection takes no choice, so the 0 of its risk ends the loop.
        self.assertEqual([[one[2] for one in told] for told, _ in found], [[1], [2], [3]])
        program = Program.read('globals a kinds k def f() { g() g() g() } def g() { try { risk k } except k { a = a + 1 } }')
        found = list(campaign(program, 'f', (), (0,), [], most=2))
        self.assertEqual([[one[2] for one in told] for told, _ in found], [[1], [1, 2], [1, 3], [2], [2, 3], [3]])
        found = list(campaign(program, 'f', (), (0,), [], most=3))
        self.assertEqual([[one[2] for one in told] for told, _ in found], [[1], [1, 2], [1, 2, 3], [1, 3], [2], [2, 3], [3]])

    def test_changed_lists(self):
        program = Program.read('globals a kinds k def f() { g() g() g() } def g() { try { risk k } except k { a = a + 1 } }')
        choices = [0]
        told = []
        for injections, _ in campaign(program, 'f', (), (0,), choices, most=3):
            told.append([one[2] for one in injections])
            injections.reverse()
            injections.append(None)
        self.assertEqual(told, [[1], [1, 2], [1, 2, 3], [1, 3], [2], [2, 3], [3]])
        self.assertEqual(choices, [0])

    def test_exposed(self):
        program = Program.read('globals a b kinds k l def f(&p, x) { risk l a = a + x risk l, k p = x risk k a = a - x risk l }')
        self.assertEqual(exposed(program, 'f', ('p',), (1, 2, 3, 4), []), [(2, 'k'), (2, 'l'), (4, 'k'), (6, 'l')])
        self.assertEqual(exposed(program, 'f', ('p',), (1, 2, 4, 4), []), [(2, 'k'), (2, 'l'), (4, 'k')])
        self.assertEqual(exposed(program, 'f', ('p',), (1, 2, 0, 0), []), [])
        self.assertEqual(exposed(program, 'f', ('b',), (1, 2, 0), []), [(4, 'k'), (6, 'l')])

    def test_one_is_the_default(self):
        program = Program.read('globals a kinds k l def f() { try { risk k } except k { a = 1 } risk l }')
        self.assertEqual(exposed(program, 'f', (), (0,), []), [])
        self.assertEqual(exposed(program, 'f', (), (0,), [], most=2), [(3, 'l')])

    def test_arguments(self):
        program = Program.read('globals a kinds k def f() { risk k }')
        named = {'most': 2, 'choices': [], 'entry': (0,), 'case': (), 'name': 'f', 'program': program}
        self.assertEqual(len(list(campaign(**named))), 1)
        self.assertEqual(exposed(**named), [])
        with self.assertRaises(TypeError):
            exposed(program, 'f', (), (0,), [], 2)
        with self.assertRaises(TypeError):
            list(campaign(program, 'f', (), (0,), [], 2))

    def test_errors(self):
        program = Program.read('globals a kinds k def f() { a = 1 } def g() { risk k g() }')
        for error, args in ((UnknownFunction, (None, None, None, None)), (InvalidCase, ('f', None, None, None)),
                            (InvalidEntry, ('f', (), [0], None)), (InvalidChoices, ('f', (), (0,), (0,))),
                            (LimitExceeded, ('g', (), (0,), []))):
            with self.assertRaises(error):
                list(campaign(program, *args))
            with self.assertRaises(error):
                exposed(program, *args)
        # The run itself stays within the limits here, an injected one does not.
        program = Program.read('globals a kinds k def f() { try { risk k } except k { f() } }')
        self.assertEqual(Machine(program)('f', (), (0,), [0])[0], None)
        self.assertEqual(len(list(campaign(program, 'f', (), (0,), [0]))), 1)
