"""The machine beside a second interpreter, on random programs."""

import unittest

from allornothing.errors import LimitExceeded
from allornothing.machine import Machine
from oracle import Oracle, TooFar
from samples import Sample


def told(machine, *args):
    try:
        return machine(*args) + (machine.passings(*args), machine.replayed(*args))
    except LimitExceeded as error:
        return error.word


def wanted(oracle, *args):
    try:
        return oracle.run(*args)
    except TooFar as error:
        return str(error)


class TestRandomRuns(unittest.TestCase):
    def test_runs(self):
        counts = {}
        for start in range(1500):
            sample = Sample(start)
            machine = Machine(sample.program)
            oracle = Oracle(sample.tree)
            for name in sample.names:
                for _ in range(3):
                    case = sample.case(name)
                    entry = sample.entry(name, case)
                    choices = sample.choices()
                    given = list(choices)
                    found = told(machine, name, case, entry, choices)
                    self.assertEqual(choices, given)
                    self.assertEqual(found, wanted(oracle, name, case, entry, choices), sample.tree)
                    counts[type(found)] = counts.get(type(found), 0) + 1
                    if type(found) is tuple:
                        self.assertEqual(machine(name, case, entry, found[-1])[:4], found[:4])
        self.assertGreater(counts[tuple], 2000)
        self.assertGreater(counts[str], 10)

    def test_injected_runs(self):
        changed = 0
        for start in range(1500):
            sample = Sample(start, most=6)
            machine = Machine(sample.program)
            name = sample.names[0]
            case = sample.case(name)
            entry = sample.entry(name, case)
            choices = sample.choices()
            injections = []
            for place, statement in sample.program.statements(name):
                if statement[0] == 'risk' and sample.chosen.random() < 0.7:
                    nth = sample.chosen.randint(1, 2)
                    injections.append((name, place, nth, sample.chosen.choice(statement[1])))
            args = (name, case, entry, choices)
            found = told(machine.injected(injections), *args)
            self.assertEqual(found, wanted(Oracle(sample.tree, injections), *args), sample.tree)
            self.assertEqual(machine.within(injections, lambda: told(machine, *args)), found)
            self.assertEqual(told(machine, *args), wanted(Oracle(sample.tree), *args))
            changed += found != told(machine, *args)
            if type(found) is tuple:
                self.assertEqual(machine(name, case, entry, found[-1])[:4], found[:4])
        self.assertGreater(changed, 200)
