import unittest

from allornothing import errors

FIELDS = {
    'InvalidText': 'value', 'InvalidSyntax': 'position', 'InvalidTree': 'value',
    'DuplicateName': 'name', 'UnknownName': 'name', 'WrongArguments': 'place',
    'InvalidFinally': 'place', 'TooLarge': 'word', 'InvalidRow': 'value', 'InvalidCase': 'value',
    'InvalidEntry': 'value', 'InvalidChoices': 'value', 'InvalidInjection': 'value',
    'InvalidOrder': 'value', 'InvalidEvent': 'value', 'InvalidValues': 'value',
    'InvalidQuestion': 'position', 'InvalidCommand': 'word',
}
OTHERS = {'UnknownFunction': ('name', KeyError), 'LimitExceeded': ('word', RuntimeError)}
VALUES = (0, -3, 12, '', 'numbers', None, ('a', 1), [1, 2], {'a': 1}, 10 ** 59)


class TestErrors(unittest.TestCase):
    def check_field(self, kind, field):
        self.assertEqual(kind.__module__, 'allornothing.errors')
        for value in VALUES:
            self.assertIs(getattr(kind(value), field), value)
            self.assertIs(getattr(kind(**{field: value}), field), value)
        with self.assertRaises(TypeError):
            kind()
        with self.assertRaises(TypeError):
            kind(1, 2)
        with self.assertRaises(TypeError):
            kind(other=1)

    def check_caught(self, kind, value, bases):
        for base in bases + (kind,):
            try:
                raise kind(value)
            except base as caught:
                self.assertIs(type(caught), kind)

    def test_program_errors(self):
        self.assertEqual(len(FIELDS), 18)
        self.assertEqual(errors.ProgramError.__bases__, (ValueError,))
        for name, field in FIELDS.items():
            with self.subTest(name):
                kind = getattr(errors, name)
                self.assertEqual(kind.__name__, name)
                self.assertEqual(kind.__bases__, (errors.ProgramError,))
                self.check_field(kind, field)
                for value in (3, 'text'):
                    self.check_caught(kind, value, (errors.ProgramError, ValueError))

    def test_none_is_caught_as_another(self):
        names = list(FIELDS) + list(OTHERS)
        for one in names:
            for other in names:
                raised = getattr(errors, one)('x')
                self.assertEqual(isinstance(raised, getattr(errors, other)), one == other)

    def test_other_errors(self):
        for name, (field, base) in OTHERS.items():
            with self.subTest(name):
                kind = getattr(errors, name)
                self.assertEqual(kind.__bases__, (base,))
                self.check_field(kind, field)
                self.check_caught(kind, 'f', (base,))
                self.assertNotIsInstance(kind('f'), errors.ProgramError)
                self.assertNotIsInstance(kind('f'), ValueError)

    def test_program_error_is_none_of_them(self):
        for name in list(FIELDS) + list(OTHERS):
            self.assertNotIsInstance(errors.ProgramError('x'), getattr(errors, name))
