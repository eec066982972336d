import unittest

from allornothing.texts import is_name

KEYWORDS = ('globals', 'kinds', 'keep', 'def', 'if', 'else', 'while', 'risk', 'raise', 'try',
            'except', 'finally', 'undo', 'with', 'swallow', 'return')
LETTERS = 'abcdefghijklmnopqrstuvwxyz'
DIGITS = '0123456789'


class TestIsName(unittest.TestCase):
    def test_words(self):
        for first in LETTERS:
            self.assertIs(is_name(first), True)
            for second in LETTERS + DIGITS:
                if first + second not in KEYWORDS:
                    self.assertIs(is_name(first + second), True)
        for word in ('a1b2c3', 'x00', 'abcdefghijklmnopqrst', 'z9999999999999999999', 'name', 'number',
                     'end', 'wrong', 'some', 'any', 'place', 'none', 'true'):
            self.assertIs(is_name(word), True)
        self.assertIs(is_name(value='a'), True)

    def test_keywords(self):
        self.assertEqual(len(set(KEYWORDS)), 16)
        for word in KEYWORDS:
            self.assertIs(is_name(word), False)
            for near in (word + 'x', 'x' + word, word + '0', word[:-1]):
                self.assertIs(is_name(near), near not in KEYWORDS)

    def test_digit_first(self):
        for digit in DIGITS:
            for rest in ('', 'a', '1', 'ab'):
                self.assertIs(is_name(digit + rest), False)

    def test_one_other_character(self):
        others = [chr(code) for code in range(128) if chr(code) not in LETTERS + DIGITS]
        for sign in others + ['\u00e9', '\u0661', '\u00aa', '\u03b1']:
            for word in ('abc', 'x1', 'a', ''):
                for at in range(len(word) + 1):
                    self.assertIs(is_name(word[:at] + sign + word[at:]), False)
                for at in range(len(word)):
                    self.assertIs(is_name(word[:at] + sign + word[at + 1:]), False)

    def test_no_strings(self):
        self.assertIs(is_name(''), False)
        for value in (None, True, False, 0, 1, -1, 1.5, b'a', ['a'], ('a',), {'a'}, {'a': 1}, [], (), {},
                      object(), str, ('if', 'a'), [[]]):
            self.assertIs(is_name(value), False)
