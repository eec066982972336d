import unittest

import grammar

from allornothing.errors import InvalidSyntax
from allornothing.texts import parse

TEXTS = (
    '',
    'globals a',
    'globals a b kinds k l keep a - 2 * b keep - 3 keep b def f ( ) { } def g ( & p , x , & q ) { return 1 }',
    'kinds k def f ( x ) { a = x b = - 2 * a + 3 - b a = 4 c = ? g ( ) d = g ( a , & b , - 1 ) }',
    'def f ( ) { if { a = 1 } if { } else { risk k } while { while { } } raise k risk k , l , m return - a }',
    'def f ( ) { undo a { } undo a , b { raise k } return a + b }',
    'def f ( ) { try { } except k { } try { } finally { } try { f ( ) } except k , l { } except m { } finally { a = ? } }',
    'def f ( ) { with f ( ) , g ( & a ) { } with g ( 2 ) , f ( ) swallow k , l { with f ( ) , f ( ) swallow k { } } }',
    'keep 2 keep a globals',
)
PIECES = {'NAME': 'n', 'NUMBER': '7'}
WRONG = ('A', 'Z', '_', '[', ']', ';', ':', '.', '/', '<', '>', '!', '|', '^', '~', '@', '#', '$', '"', "'", '\\', '`',
         '\t', '\r', '07', '00', '7a', '0x1', '12345678901234a', '00000000000000')


def joined(pieces):
    """The text of the pieces, and the position of each one and of the end."""
    positions = []
    text = ''
    for piece in pieces:
        text += ' ' if text else ''
        positions.append(len(text))
        text += piece
    return text, positions + [len(text)]


class TestPositions(unittest.TestCase):
    def check(self, text, position):
        try:
            parse(text)
            found = None
        except InvalidSyntax as error:
            found = error.position
        if found != position:
            self.fail(f'{text!r}: {found} instead of {position}')

    def check_changed(self, pieces, at, column, rest):
        """Check the pieces before a place that are right, and then the rest."""
        text, positions = joined(pieces[:at] + rest)
        wrong = grammar.first_wrong(column, [grammar.kind_of(piece) for piece in rest])
        self.check(text, None if wrong is None else positions[at + wrong])

    def test_changed_tokens(self):
        others = [PIECES.get(kind, kind) for kind in grammar.TOKENS]
        self.assertEqual(len(others), 29)
        for text in TEXTS[:-1]:
            pieces = text.split()
            columns = grammar.columns([grammar.kind_of(piece) for piece in pieces])
            self.check(text, None)
            for at, column in enumerate(columns):
                self.check_changed(pieces, at, column, [])
                self.check_changed(pieces, at, column, pieces[at + 1:])
                for other in others:
                    self.check_changed(pieces, at, column, [other] + pieces[at:])
                    self.check_changed(pieces, at, column, [other] + pieces[at + 1:])

    def test_no_token(self):
        for text in TEXTS[:-1]:
            pieces = text.split()
            for at in range(len(pieces) + 1):
                for wrong in WRONG:
                    for rest in (pieces[at:], pieces[at + 1:], []):
                        changed, positions = joined(pieces[:at] + [wrong] + rest)
                        self.check(changed, positions[at])

    def test_cut_texts(self):
        for text in TEXTS:
            for tight in (text, text.replace(' ( ', '(').replace(' )', ')').replace(' , ', ',').replace(' = ', '=')):
                for end in range(len(tight) + 1):
                    for tail in ('', ' ', '\n\n', 'A', '0', 'x', '$ a', '=', '}'):
                        changed = tight[:end] + tail
                        self.check(changed, grammar.error_position(changed))

    def test_characters_put_in(self):
        for text in TEXTS:
            for at in range(len(text) + 1):
                for sign in 'aZ09_ \n\t=+-*&?(){},.':
                    changed = text[:at] + sign + text[at:]
                    self.check(changed, grammar.error_position(changed))

    def test_some_by_hand(self):
        tests = {
            'a': 0, 'globals': 7, 'globals ': 8, 'globals\n\n': 9, 'globals kinds': 8, 'globals 1': 8, 'globals a, b': 9,
            'globals a globals b': 10, 'kinds k globals a': 8, 'kinds k kinds l': 8, 'keep a kinds k': 7, 'keep': 4,
            'keep ': 5, 'keep a b': 7, 'keep - - a': 7, 'keep a * 2': 7, 'keep 2 a': 7, 'keep 2 * 3': 9, 'keep 2 *': 8,
            'keep 2 * a * b': 11, 'keep ?': 5, 'keep + a': 5, 'keep (a)': 5, 'keep a(': 6, 'keep a =': 7,
            'def f() { } keep a': 12, 'def': 3, 'def if': 4, 'def f': 5, 'def f {': 6, 'def f(': 6, 'def f(,': 6,
            'def f(a,': 8, 'def f(a,)': 8, 'def f(a b': 8, 'def f(&': 7, 'def f(& &': 8, 'def f(1': 6, 'def f(-a': 6,
            'def f()': 7, 'def f() {': 9, 'def f() { } }': 12, 'def f() { def g': 10, 'def f() { else': 10,
            'def f() { a }': 12, 'def f() { a b': 12, 'def f() { a = }': 14, 'def f() { a = ? + 1': 16,
            'def f() { a = - g(': 17, 'def f() { a = b + g(': 19, 'def f() { a = g() + 1': 18, 'def f() { 1': 10,
            'def f() { a = ?, b': 15, 'def f() { a = & b': 14, 'def f() { g(,': 12, 'def f() { g(a,)': 14,
            'def f() { g(a b': 14, 'def f() { g(g(': 13, 'def f() { g(&1': 13, 'def f() { g(& a + 1': 16, 'def f() { g(?': 12,
            'def f() { if a': 13, 'def f() { if { } else if': 22, 'def f() { if { } else { } else': 26,
            'def f() { while { } else': 20, 'def f() { risk }': 15, 'def f() { risk k, }': 18, 'def f() { risk k l }': 19,
            'def f() { raise }': 16, 'def f() { raise k, l': 17, 'def f() { return }': 17, 'def f() { return ?': 17,
            'def f() { return g(': 18, 'def f() { undo {': 15, 'def f() { undo a b': 17, 'def f() { undo a, {': 18,
            'def f() { try { } }': 18, 'def f() { try { } a': 18, 'def f() { try { } else': 18,
            'def f() { try { } finally { } except': 30, 'def f() { try { } finally { } finally': 30,
            'def f() { try { } except {': 25, 'def f() { try { } except k l': 27, 'def f() { except': 10,
            'def f() { try { } except k { } else': 31, 'def f() { finally': 10, 'def f() { swallow': 10,
            'def f() { with f() {': 19, 'def f() { with f() g': 19, 'def f() { with f(), {': 20, 'def f() { with f, g': 16,
            'def f() { with f(), g() swallow {': 32, 'def f() { with f(), g() a': 24, 'def f() { with a = f(': 17,
            'def f() { with f(), g(), h(': 23, 'def f() { f()(': 13, 'def f() { if { } } }': 19, 'aB': 0,
            'globals aB': 9, 'globals a_b': 9, 'globals 1a': 8, 'globals a.b': 9, 'globals\ta': 7, 'keep 1a': 5, 'keep 2A': 6,
        }
        for text, position in tests.items():
            self.check(text, position)
            self.assertEqual(grammar.error_position(text), position)
