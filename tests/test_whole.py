"""What the modules tell of the same programs, together, and the examples of the document."""

import ast
import inspect
import pathlib
import re
import unittest

from allornothing import (campaigns, changes, console, errors, logs, machine, orders, papers, printing, programs, questions, rows, spaces, stores, summaries,
                          texts, traces, verdicts)
from allornothing.errors import LimitExceeded, TooLarge
from samples import Sample
from test_logs import MIXED

DOC = pathlib.Path(__file__).resolve().parent.parent.parent / 'shared' / 'DOC.md'
PARAMETERS = {
    texts.parse: 'text', texts.is_name: 'value', printing.show: 'tree', programs.Program: 'tree', programs.Program.statements: 'self name',
    programs.Program.variables: 'self name', programs.Program.callees: 'self name', programs.Program.reached: 'self name', programs.Program.places: 'self name',
    programs.Program.replaced: 'self function', programs.Program.read: 'text', programs.Program.cases: 'self name', programs.Program.cells: 'self name case',
    machine.Machine: 'program', machine.Machine.__call__: 'self name case entry choices', machine.Machine.passings: 'self name case entry choices',
    machine.Machine.replayed: 'self name case entry choices', machine.Machine.runs: 'self name case entry most inputs', machine.Machine.injected: 'self injections',
    machine.Machine.injections: 'self', machine.Machine.within: 'self injections call', campaigns.campaign: 'program name case entry choices * most',
    campaigns.exposed: 'program name case entry choices * most', rows.reduced: 'rows width', rows.kernel: 'rows width', rows.product: 'one other',
    spaces.Space: 'width rows', spaces.Space.is_within: 'self other', traces.traced: 'program name case choices', summaries.Analysis: 'program',
    summaries.Analysis.returns: 'self name case', summaries.Analysis.leaves: 'self name case', verdicts.verdicts: 'analysis name case',
    verdicts.keeps_sums: 'analysis name case', verdicts.changed_cells: 'analysis name place kind case', verdicts.change_witness: 'analysis name place kind cell case',
    verdicts.witness: 'analysis name place kind case', papers.paper: 'program name case', papers.is_paper: 'program name case value',
    papers.told_verdicts: 'program name case value', logs.wrapped: 'program name variables', logs.all_or_nothing: 'program name case', logs.forced: 'program name case',
    logs.fewest: 'program name', orders.needs: 'program name case', orders.orders: 'program name case', orders.reordered: 'program name order case',
    orders.cheapest: 'program name case', orders.repaired: 'program name case', stores.Store: 'values', stores.Store.perform: 'self event',
    stores.Store.current: 'self', stores.Store.log: 'self', stores.Store.crashes: 'self', stores.Store.recovered: 'self', stores.is_safe: 'values events',
    stores.transaction: 'program name case entry choices durable', stores.Database: 'program values', stores.Database.perform: 'self name case rest choices',
    stores.Database.current: 'self', stores.Database.events: 'self', stores.Database.crashed: 'self number', changes.changes: 'old new', changes.worse: 'old new',
    changes.stale: 'old new', questions.Condition.__call__: 'self row', questions.Condition.parts: 'self', questions.where: '** wanted',
    questions.read_condition: 'text', questions.rows_of: 'program', questions.selected: 'program condition', questions.ask: 'program text',
    console.Console: '', console.Console.execute: 'self command',
}
FIELDS = {'value': 'InvalidText InvalidTree InvalidRow InvalidCase InvalidEntry InvalidChoices InvalidInjection InvalidOrder InvalidEvent InvalidValues',
          'position': 'InvalidSyntax InvalidQuestion', 'name': 'DuplicateName UnknownName UnknownFunction', 'place': 'WrongArguments InvalidFinally',
          'word': 'TooLarge InvalidCommand LimitExceeded'}


def text_of(program):
    return printing.show(program.tree())


class TestInterface(unittest.TestCase):
    def test_parameters(self):
        for call, wanted in PARAMETERS.items():
            found = []
            for name, one in inspect.signature(call).parameters.items():
                if one.kind is one.KEYWORD_ONLY and '*' not in found:
                    found.append('*')
                if one.kind is one.VAR_KEYWORD:
                    found.append('**')
                self.assertIsNot(one.kind, one.POSITIONAL_ONLY)
                found.append(name)
            self.assertEqual(' '.join(found), wanted, call)

    def test_defaults(self):
        for call in PARAMETERS:
            for name, one in inspect.signature(call).parameters.items():
                if name == 'case' and one.default is not one.empty:
                    self.assertIsNone(one.default)
        for call in (papers.is_paper, papers.told_verdicts, machine.Machine.__call__, traces.traced, stores.transaction, stores.Database.perform):
            self.assertIs(inspect.signature(call).parameters['case'].default, inspect.Parameter.empty)
        self.assertEqual(inspect.signature(machine.Machine.runs).parameters['inputs'].default, (0, 1))
        self.assertEqual(inspect.signature(campaigns.campaign).parameters['most'].default, 1)
        self.assertEqual(inspect.signature(campaigns.exposed).parameters['most'].default, 1)

    def test_generators(self):
        for call in (programs.Program.statements, machine.Machine.runs, campaigns.campaign, orders.orders, stores.Store.crashes, stores.Database.crashed, questions.selected):
            self.assertTrue(inspect.isgeneratorfunction(call))

    def test_errors(self):
        for field, names in FIELDS.items():
            for name in names.split():
                one = getattr(errors, name)
                self.assertEqual(vars(one('x')), {field: 'x'})
                self.assertEqual(vars(one(**{field: None})), {field: None})

    @unittest.skipUnless(DOC.exists(), 'the document is not here')
    def test_examples_of_the_document(self):
        many = 0
        for block in re.findall(r'```\n(.*?)```', DOC.read_text(), re.S):
            names = {}
            for part in re.split(r'^>>> ', block, flags=re.M)[1:]:
                code, _, wanted = part.partition('\n')
                if isinstance(ast.parse(code).body[0], ast.Expr):
                    self.assertEqual(repr(eval(code, names)), wanted.rstrip('\n'), code)
                    many += 1
                else:
                    exec(code, names)
        self.assertGreater(many, 12)


class TestTogether(unittest.TestCase):
    """The same is told by all modules."""

    def test_verdicts(self):
        for start in range(60):
            sample = Sample(start, functions=3)
            program = sample.program
            told = console.Console()
            told.execute('program ' + ' '.join(text_of(program).split()))
            found = questions.rows_of(program)
            analysis = summaries.Analysis(program)
            for name in sample.names:
                mine = {(place, kind): verdict for function, place, kind, verdict, _ in found if function == name}
                case = tuple(program.places(name))
                self.assertEqual(verdicts.verdicts(analysis, name), mine)
                self.assertEqual(papers.told_verdicts(program, name, case, papers.paper(program, name)), mine)
                self.assertEqual(logs.all_or_nothing(program, name), set(mine.values()) <= {'same'})
                self.assertEqual(questions.ask(program, f'no function {name} and not verdict same'), logs.all_or_nothing(program, name))
                self.assertEqual(told.execute(f'ask count function {name}'), str(len(mine)))
                lines = told.execute(f'verdicts {name}').splitlines()
                self.assertEqual(len([line for line in lines if line != '-']), len(mine))
                for function, place, kind, verdict, cells in found:
                    if function == name:
                        self.assertEqual(verdict == 'changed', verdicts.witness(analysis, name, place, kind) is not None)
                        self.assertEqual(list(cells), verdicts.changed_cells(analysis, name, place, kind))
                        for cell in cells:
                            self.shown(program, name, place, kind, cell, verdicts.change_witness(analysis, name, place, kind, cell))
                if name not in program.reached(name):
                    changed = {cell for row in found if row[0] == name for cell in row[4]}
                    self.assertEqual(logs.forced(program, name), tuple(cell for cell in program.cells(name, case) if cell in changed))
                    self.assertTrue(set(orders.cheapest(program, name)[0]) <= changed if len(program[name][2]) < 9 else True)

    def shown(self, program, name, place, kind, cell, told):
        """Check that a witness is a run, also where a console runs it."""
        entry, choices = told
        case = tuple(program.places(name))
        run = machine.Machine(program)(name, case, entry, list(choices))
        self.assertEqual(run[:2], (kind, place))
        at = program.cells(name, case).index(cell)
        self.assertNotEqual(run[2][at], entry[at])
        self.assertEqual(traces.traced(program, name, case, list(choices))[0], (place, kind))
        one = console.Console()
        one.execute('program ' + ' '.join(text_of(program).split()))
        line = 'run ' + name + ' ' + (','.join(map(str, entry)) or '-') + ' ' + (','.join(map(str, choices)) or '-')
        self.assertEqual(one.execute(line).splitlines()[0], f'throws {kind} {place}')

    def test_nothing_is_left_at_a_throw_injected_where_all_is_the_same(self):
        many = 0
        for start in range(120):
            sample = Sample(start, functions=3)
            for name in sample.names:
                case = sample.case(name)
                found = verdicts.verdicts(summaries.Analysis(sample.program), name, case)
                args = sample.program, name, case, sample.entry(name, case), sample.choices()
                try:
                    told = list(campaigns.campaign(*args))
                    left = campaigns.exposed(*args)
                except LimitExceeded:
                    continue
                for _, (kind, place, cells, _, _) in told:
                    if kind is not None:
                        self.assertIn((place, kind), found)
                        if found[place, kind] == 'same':
                            self.assertEqual(cells, args[3][:len(cells)])
                            many += 1
                self.assertTrue(all(found[ending] != 'same' for ending in left))
        self.assertGreater(many, 30)

    def test_beside_an_equal_program(self):
        for start in range(60):
            program = Sample(start).program
            other = programs.Program.read(text_of(program))
            self.assertEqual(other, program)
            self.assertEqual((changes.changes(program, other), changes.worse(program, other), changes.stale(program, other)), ([], [], []))

    def test_of_a_text_that_is_read_again(self):
        for start in range(60):
            sample = Sample(start)
            other = programs.Program.read(text_of(sample.program))
            self.assertEqual(other.tree(), sample.program.tree())
            self.assertEqual(questions.rows_of(other), questions.rows_of(sample.program))
            for name in sample.names:
                for case in sample.program.cases(name):
                    told = papers.paper(sample.program, name, case)
                    self.assertEqual(told, papers.paper(other, name, case))
                    self.assertTrue(papers.is_paper(other, name, case, told))
                    self.assertEqual(summaries.Analysis(other).returns(name, case), summaries.Analysis(sample.program).returns(name, case))
                self.assertEqual(logs.fewest(other, name), logs.fewest(sample.program, name))

    def test_repaired_and_read_again(self):
        many = 0
        for start in range(120):
            sample = Sample(start, functions=2, most=6, depth=2, words=MIXED)
            for name in sample.names:
                program = sample.program
                if len(program[name][2]) > 8 or (name in program.reached(name) and program.places(name)):
                    continue
                for case in program.cases(name)[:3]:
                    try:
                        other = orders.repaired(program, name, case)
                    except TooLarge:
                        continue
                    again = programs.Program.read(text_of(other))
                    self.assertTrue(logs.all_or_nothing(again, name, case))
                    self.assertEqual(logs.forced(again, name, case), ())
                    self.assertEqual(orders.cheapest(again, name, case)[0], ())
                    many += again != program
        self.assertGreater(many, 30)

    def test_logged_and_stored(self):
        """What must be logged is among what a transaction writes in a run that shows it."""
        for start in range(60):
            sample = Sample(start, functions=2)
            program = sample.program
            analysis = summaries.Analysis(program)
            for name in sample.names:
                case = tuple(program.places(name))
                for (place, kind), verdict in verdicts.verdicts(analysis, name).items():
                    for cell in verdicts.changed_cells(analysis, name, place, kind):
                        entry, choices = verdicts.change_witness(analysis, name, place, kind, cell)
                        events, outcome = stores.transaction(program, name, case, entry, list(choices), (cell,))
                        self.assertEqual(outcome[:2], (kind, place))
                        at = program.cells(name, case).index(cell)
                        self.assertEqual(events[0], ('log', cell, entry[at]))
                        self.assertEqual(events[-4], ('write', cell, entry[at]))
                        self.assertTrue(stores.is_safe({cell: entry[at]}, events))
