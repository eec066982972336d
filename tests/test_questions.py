"""Conditions and questions beside Python's own and, or and not."""

import random
import re
import unittest

from allornothing.errors import InvalidQuestion, InvalidText, TooLarge, UnknownFunction, UnknownName
from allornothing.programs import Program
from allornothing.questions import Condition, ask, read_condition, rows_of, selected, where
from allornothing.summaries import Analysis
from allornothing.verdicts import changed_cells, verdicts
from samples import Sample

KEYWORDS = 'globals kinds keep def if else while risk raise try except finally undo with swallow return'.split()
FIELDS = ('function', 'place', 'kind', 'verdict', 'changes')
EXAMPLE = 'globals a b kinds k l def f() { risk l a = a - 1 risk k b = ? risk k, l }'
LEAVES = [('any',), ('function', 'f'), ('function', 'or'), ('place', 0), ('place', 3), ('kind', 'k'), ('kind', 'then'), ('verdict', 'same'),
          ('verdict', 'sound'), ('verdict', 'changed'), ('changes', 'a'), ('changes', 'changes')]


def built(tree):
    """The condition of a tree of tuples, made by operators."""
    match tree:
        case ('and', one, other):
            return built(one) & built(other)
        case ('or', one, other):
            return built(one) | built(other)
        case ('not', one):
            return ~built(one)
        case ('any',):
            return where()
    return where(**{tree[0]: tree[1]})


def told(condition):
    """The tree of tuples of a condition."""
    return tuple(told(part) if isinstance(part, Condition) else part for part in condition.parts())


def written(tree, within='or'):
    """The words of the text of a tree, with brackets only where they are needed."""
    match tree:
        case ('or', one, other):
            words = written(one) + ['or'] + written(other, 'and')
            return words if within == 'or' else ['('] + words + [')']
        case ('and', one, other):
            words = written(one, 'and') + ['and'] + written(other, 'one')
            return words if within != 'one' else ['('] + words + [')']
        case ('not', one):
            return ['not'] + written(one, 'one')
    return [str(part) for part in tree]


def some_tree(chosen, depth):
    word = chosen.choice(('and', 'or', 'not', 'leaf', 'leaf')) if depth else 'leaf'
    if word == 'leaf':
        return chosen.choice(LEAVES)
    if word == 'not':
        return word, some_tree(chosen, depth - 1)
    return word, some_tree(chosen, depth - 1), some_tree(chosen, depth - 1)


def holds(tree, row):
    match tree:
        case ('and', one, other):
            return holds(one, row) and holds(other, row)
        case ('or', one, other):
            return holds(one, row) or holds(other, row)
        case ('not', one):
            return not holds(one, row)
        case ('any',):
            return True
        case ('changes', name):
            return name in row[4]
    return row[FIELDS.index(tree[0])] == tree[1]


def first_error(text, is_question):
    """(word or position) of the first error of a text, None if there is none: by a stack of open brackets."""
    at, stack, state, around = 0, [0], 'one', 0
    left = None
    if is_question:
        state = 'first'
    while True:
        while at < len(text) and text[at] in ' \n':
            at += 1
        piece = re.match(r'[a-z0-9]*', text[at:]).group() or text[at:at + 1]
        if state == 'one' and around > 30:
            return 'nesting'
        is_name = re.fullmatch('[a-z][a-z0-9]*', piece) and piece not in KEYWORDS
        if state == 'first' and piece in ('some', 'no', 'count', 'every'):
            left, state = piece == 'every', 'one'
        elif state == 'one' and piece == 'not':
            around += 1
        elif state == 'one' and piece == '(':
            around += 1
            stack.append(around)
        elif state == 'one' and piece == 'any':
            state = 'behind'
        elif state == 'one' and piece in FIELDS:
            state = piece
        elif state == 'place' and re.fullmatch('0|[1-9][0-9]*', piece):
            if len(piece) > 12:
                return 'numbers'
            state = 'behind'
        elif state == 'verdict' and piece in ('same', 'sound', 'changed'):
            state = 'behind'
        elif state in ('function', 'kind', 'changes') and is_name:
            state = 'behind'
        elif state == 'behind' and piece in ('and', 'or'):
            state, around = 'one', stack[-1]
        elif state == 'behind' and piece == ')' and len(stack) > 1:
            stack.pop()
        elif state == 'behind' and piece == 'then' and left and len(stack) == 1:
            state, left, around = 'one', False, 0
        elif state == 'behind' and piece == '' and not left and len(stack) == 1:
            return None
        else:
            return at
        at += len(piece)


class Checked(unittest.TestCase):
    def check_error(self, text, is_question=False):
        """Check the first error of a text, if there is one; return it."""
        wanted = first_error(text, is_question)
        call = (lambda: ask(self.program, text)) if is_question else (lambda: read_condition(text))
        try:
            call()
            found = None
        except InvalidQuestion as error:
            found = error.position
        except TooLarge as error:
            found = error.word
        except (UnknownFunction, UnknownName):
            found = None
        self.assertEqual(found, wanted, repr(text))
        return found


class TestCondition(Checked):
    ROWS = [(function, place, kind, verdict, cells) for function in ('f', 'or', 'g') for place in (0, 3, 7) for kind in ('k', 'then')
            for verdict in ('same', 'sound', 'changed') for cells in ((), ('a',), ('b', 'changes'), ('changes', 'a'))]

    def test_leaves(self):
        for tree in LEAVES:
            condition = built(tree)
            self.assertIs(type(condition), Condition)
            self.assertEqual(condition.parts(), tree)
            self.assertIs(type(condition.parts()), tuple)
            for row in self.ROWS:
                self.assertIs(condition(row), holds(tree, row))

    def test_operators(self):
        one, other = where(kind='k'), where(place=3)
        self.assertEqual((one & other).parts(), ('and', one, other))
        self.assertEqual((one | other).parts(), ('or', one, other))
        self.assertEqual((~one).parts(), ('not', one))
        self.assertEqual((~~one).parts(), ('not', ~one))
        self.assertEqual((one.parts(), other.parts()), (('kind', 'k'), ('place', 3)))

    def test_random(self):
        chosen = random.Random(4)
        for _ in range(300):
            tree = some_tree(chosen, 4)
            condition = built(tree)
            self.assertEqual(told(condition), tree)
            for row in chosen.sample(self.ROWS, 12):
                self.assertIs(condition(row), holds(tree, row))
            text = ' '.join(written(tree))
            self.assertEqual(read_condition(text), condition, text)
            self.assertEqual(told(read_condition(text)), tree)
            other = some_tree(chosen, 3)
            self.assertEqual(built(other) == condition, other == tree)

    def test_equal(self):
        self.assertTrue(where(kind='k', place=1) == (where(kind='k') & where(place=1)))
        self.assertFalse(where(kind='k', place=1) == where(place=1, kind='k'))
        self.assertTrue(where() == read_condition('any'))
        for other in (None, True, ('any',), 'any', 0, where(kind='k'), ~where(), where() & where(), object()):
            self.assertFalse(where() == other)
            self.assertTrue(where() != other)

    def test_rows_of_any_values(self):
        for row in ((None, None, None, None, ()), ('f', 3, 'k', 'same', ['a']), (['f'], {}, 0, 1, ('b', None)), (1, 2, 3, 4, (5,))):
            for tree in LEAVES:
                self.assertIs(built(tree)(row), holds(tree, row))

    def test_where(self):
        every = where(changes='a', verdict='same', kind='k', place=0, function='f')
        self.assertEqual(told(every), ('and', ('and', ('and', ('and', ('changes', 'a'), ('verdict', 'same')), ('kind', 'k')), ('place', 0)), ('function', 'f')))
        self.assertEqual(where().parts(), ('any',))
        for wanted, word in (({'cells': 1}, 'cells'), ({'kind': 'k', 'name': 1, 'cell': 2}, 'name'), ({'any': 1}, 'any'), ({'row': 1, 'kind': 'k'}, 'row'),
                             ({'kinds': 'k'}, 'kinds'), ({'word': 1}, 'word'), ({'wanted': 1}, 'wanted'), ({'text': None}, 'text'), ({'Kind': 1}, 'Kind')):
            with self.assertRaises(UnknownName) as caught:
                where(**wanted)
            self.assertEqual(caught.exception.name, word)


class TestRead(Checked):
    def test_forms(self):
        for text, tree in (('any', ('any',)), ('kind k', ('kind', 'k')), ('place 0', ('place', 0)), ('place 999999999999', ('place', 999999999999)),
                           ('verdict sound', ('verdict', 'sound')), ('changes or', ('changes', 'or')), ('function some', ('function', 'some')),
                           ('not any', ('not', ('any',))), ('not not any', ('not', ('not', ('any',)))),
                           ('any and any and any', ('and', ('and', ('any',), ('any',)), ('any',))), ('any or any or any', ('or', ('or', ('any',), ('any',)), ('any',))),
                           ('any or kind k and any', ('or', ('any',), ('and', ('kind', 'k'), ('any',)))),
                           ('kind k and any or any', ('or', ('and', ('kind', 'k'), ('any',)), ('any',))), ('not any and any', ('and', ('not', ('any',)), ('any',))),
                           ('not(any and any)', ('not', ('and', ('any',), ('any',)))), ('((any))', ('any',)), ('(any)or(any)', ('or', ('any',), ('any',))),
                           ('kind k and(any or any)', ('and', ('kind', 'k'), ('or', ('any',), ('any',)))), ('kind and and any', ('and', ('kind', 'and'), ('any',))),
                           (' \n any \n', ('any',)), ('kind\nk', ('kind', 'k')), ('function f2k', ('function', 'f2k'))):
            self.assertEqual(told(read_condition(text)), tree, text)
            self.assertEqual(read_condition(text=text), built(tree))
            self.assertIsNone(first_error(text, False))

    def test_texts_of_any_kind(self):
        for call in (read_condition, lambda text: ask(Program.read(EXAMPLE), text)):
            for text in (None, True, 0, b'any', ['any'], ('any',), {}, where(), object()):
                with self.assertRaises(InvalidText) as caught:
                    call(text)
                self.assertIs(caught.exception.value, text)

    def test_nesting(self):
        for many in range(28, 34):
            for texts in (['not '] * many, ['('] * many, ['(', 'not '] * (many // 2) + ['('] * (many % 2), ['any and('] * many, ['not(any or('] * (many // 2)):
                text = ''.join(texts)
                for end in ('', 'any', 'zz', '?', '007', 'any' + ')' * text.count('('), 'any or any' + ')' * text.count('(')):
                    self.check_error(text + end)
        self.assertIsNotNone(read_condition('not ' * 30 + 'any'))
        for text in ('not ' * 31 + 'any', 'not ' * 31, '(' * 31 + '?', 'any and ' + '(' * 31):
            with self.assertRaises(TooLarge) as caught:
                read_condition(text)
            self.assertEqual(caught.exception.word, 'nesting')
        self.assertEqual(self.check_error('or' + 'not ' * 40), 0)
        self.assertEqual(self.check_error('place 1234567890123 and ' + 'not ' * 40), 'numbers')
        wide = ' or '.join(['not ' * 29 + '(any)'] * 3)
        self.assertIsNone(self.check_error(wide))

    def test_numbers(self):
        for text, wanted in (('place 1234567890123', 'numbers'), ('place 123456789012', None), ('place 0123', 6), ('place 00', 6), ('place 1a', 6),
                             ('kind 1234567890123', 5), ('1234567890123', 0), ('place 12345678901234567890x', 6), ('place -1', 6),
                             ('place 1 1234567890123', 8), ('place 1234567890123 )', 'numbers'), ('any ) place 1234567890123', 4)):
            self.assertEqual(self.check_error(text), wanted)

    def test_errors(self):
        for text, wanted in (('', 0), ('  ', 2), ('an', 0), ('any any', 4), ('any )', 4), ('( any', 5), ('()', 1), ('not', 3), ('and any', 0), ('any and', 7), ('any or or', 7),
                             ('kind', 4), ('kind if', 5), ('kind keep', 5), ('verdict never', 8), ('verdict k', 8), ('place', 5), ('place k', 6), ('any = any', 4), ('any & any', 4),
                             ('some any', 0), ('any then any', 4), ('kind k,', 6), ('kind kind kind', 10), ('any;', 3), ('Any', 0), ('any\t', 3), ('not or', 4),
                             ('function f g', 11), ('( any ) )', 8), ('any -', 4), ('changes *', 8), ('anyor any', 0), ('any orany', 4)):
            self.assertEqual(self.check_error(text), wanted, text)

    def test_changed_texts(self):
        chosen = random.Random(9)
        others = ['any', 'not', '(', ')', 'and', 'or', 'kind', 'place', 'verdict', 'function', 'changes', 'k', '7', 'same', 'then', 'some', 'if', '?', '=', ',', 'Z', '07', '7a', '12345678901234']
        self.program = Program.read(EXAMPLE)
        seen = {}
        for _ in range(1500):
            words = written(some_tree(chosen, 3))
            is_question = chosen.random() < 0.5
            if is_question:
                words = [chosen.choice(('some', 'no', 'count'))] + words
                if chosen.random() < 0.5:
                    words = ['every'] + words[1:] + ['then'] + written(some_tree(chosen, 2))
            for _ in range(chosen.choice((0, 1, 1, 2))):
                at = chosen.randrange(len(words) + 1)
                words[at:at + chosen.choice((0, 0, 1, 2))] = [chosen.choice(others)] * chosen.choice((0, 1, 1))
            text = ''.join(word + chosen.choice((' ', ' ', '\n', '  ')) if word not in '()' else word for word in words)
            found = self.check_error(text, is_question)
            seen[type(found)] = seen.get(type(found), 0) + 1
        self.assertGreater(min(seen[int], seen[type(None)]), 100)


class TestRows(Checked):
    def test_by_hand(self):
        program = Program.read('globals a b kinds l k keep b def g(&p) { p = 1 risk l, k } def f() { g(&a) b = 0 risk k }')
        self.assertEqual(rows_of(program), [('g', 1, 'k', 'sound', ('p',)), ('g', 1, 'l', 'sound', ('p',)), ('f', 0, 'k', 'sound', ('a',)),
                                            ('f', 0, 'l', 'sound', ('a',)), ('f', 2, 'k', 'sound', ('a', 'b'))])
        self.assertEqual(rows_of(Program.read('')), [])
        rows_of(program).clear()
        self.assertEqual(len(rows_of(program=program)), 5)

    def test_random(self):
        for start in range(120):
            sample = Sample(start)
            analysis = Analysis(sample.program)
            wanted = []
            for name in sample.names:
                for (place, kind), verdict in sorted(verdicts(analysis, name).items()):
                    wanted.append((name, place, kind, verdict, tuple(changed_cells(analysis, name, place, kind))))
            self.assertEqual(rows_of(sample.program), wanted)
            for condition in (where(verdict='changed'), where(kind='k', changes='a'), ~where(), where(), lambda row: row[1] > 2, lambda row: row[4]):
                self.assertEqual(list(selected(sample.program, condition)), [row for row in wanted if condition(row)])
            self.assertEqual(list(selected(condition=where(), program=sample.program)), wanted)


class TestAsk(Checked):
    def test_example(self):
        program = Program.read(EXAMPLE)
        texts = ['some kind l and not changes a', 'every changes b then changes a', 'count verdict changed', 'no place 4']
        self.assertEqual([ask(program, text) for text in texts], [True, True, 3, False])
        self.assertTrue(read_condition('kind k or any') == where(kind='k') | where())

    def test_answers(self):
        program = Program.read(EXAMPLE)
        for text, wanted in (('some any', True), ('no any', False), ('some not any', False), ('no not any', True), ('count any', 4), ('count not any', 0),
                             ('every any then any', True), ('every any then not any', False), ('every not any then not any', True), ('count kind k', 2),
                             ('every kind k then changes a', True), ('every changes a then kind k', False), ('some function f and place 99', False),
                             ('count place 4 or place 0', 3), ('every verdict same then place 0', True), ('count(any)', 4), ('count kind k and kind k', 2)):
            self.assertEqual(ask(program, text), wanted, text)
            self.assertIs(type(ask(program, text)), type(wanted))
        self.assertEqual(ask(text='count any', program=program), 4)

    def test_random(self):
        chosen = random.Random(6)
        for start in range(100):
            program = Sample(start).program
            rows = rows_of(program)
            for _ in range(6):
                one, other = some_tree(chosen, 3), some_tree(chosen, 2)
                texts = {'some': any(holds(one, row) for row in rows), 'no': not any(holds(one, row) for row in rows), 'count': sum(holds(one, row) for row in rows),
                         'every': all(holds(other, row) for row in rows if holds(one, row))}
                for word, wanted in texts.items():
                    words = written(one) + (['then'] + written(other) if word == 'every' else [])
                    names = [(words[at], words[at + 1]) for at in range(len(words) - 1) if self.is_field(words, at)]
                    missing = [(field, name) for field, name in names if not self.is_there(program, field, name)]
                    text = ' '.join([word] + words)
                    if not missing:
                        self.assertEqual(ask(program, text), wanted)
                        continue
                    with self.assertRaises(UnknownFunction if missing[0][0] == 'function' else UnknownName) as caught:
                        ask(program, text)
                    self.assertEqual(caught.exception.name, missing[0][1])

    def is_field(self, words, at):
        """Whether a word is a field, and not the name behind one."""
        return words[at] in ('function', 'kind', 'changes') and not (at and self.is_field(words, at - 1))

    def is_there(self, program, field, name):
        if field == 'function':
            return name in program.functions
        if field == 'kind':
            return name in program.kinds
        return name in program.globals or any(name in program.places(one) for one in program.functions)

    def test_names(self):
        program = Program.read('globals a kinds k def f(&p, x) { u = 1 } def g(&q) { }')
        for text in ('some changes a', 'some changes p or changes q', 'no kind k', 'count function g', 'count place 99', 'every any then function f'):
            ask(program, text)
        for text, error, name in (('some changes x', UnknownName, 'x'), ('some changes u', UnknownName, 'u'), ('some changes k', UnknownName, 'k'), ('some changes f', UnknownName, 'f'),
                                  ('no kind a', UnknownName, 'a'), ('count kind l', UnknownName, 'l'), ('some function k', UnknownFunction, 'k'), ('some function a', UnknownFunction, 'a'),
                                  ('some kind z or function y', UnknownName, 'z'), ('some not (function y and kind z)', UnknownFunction, 'y'),
                                  ('every any then kind z', UnknownName, 'z'), ('every function y then kind z', UnknownFunction, 'y'),
                                  ('some any and (kind k or not changes w) and function zz', UnknownName, 'w')):
            with self.assertRaises(error) as caught:
                ask(program, text)
            self.assertEqual(caught.exception.name, name)
        for text in ('some kind z any', 'every kind z', 'some function z or', 'some kind z place 1234567890123'):
            with self.assertRaises(InvalidQuestion):
                ask(program, text)
        for text, word in (('some kind z or place 1234567890123', 'numbers'), ('some kind z and ' + 'not ' * 31, 'nesting'), ('every kind z then ' + '(' * 31, 'nesting')):
            with self.assertRaises(TooLarge) as caught:
                ask(program, text)
            self.assertEqual(caught.exception.word, word)

    def test_questions_that_are_wrong(self):
        self.program = Program.read(EXAMPLE)
        for text, wanted in (('', 0), ('any', 0), ('some', 4), ('some any then any', 9), ('every any', 9), ('every any then', 14), ('every any then any then any', 19), ('every (any then any)', 11),
                             ('all any', 0), ('count', 5), ('no no', 3), ('some some', 5), ('Some any', 0), ('every then then any', 6), ('every kind then then any', None),
                             ('some any ?', 9), ('someany', 0), ('some(any)', None), ('every(any)then(any)', None), ('if any', 0)):
            self.assertEqual(self.check_error(text, True), wanted, text)

    def test_nesting_begins_anew(self):
        program = Program.read(EXAMPLE)
        self.assertTrue(ask(program, 'every ' + 'not ' * 30 + 'any then ' + 'not ' * 30 + 'any'))

    def test_stands_in_the_class(self):
        for name in ('__call__', '__and__', '__or__', '__invert__', '__eq__', 'parts'):
            self.assertIn(name, vars(Condition))
