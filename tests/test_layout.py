"""The sizes and characters that the files of the package keep to."""

import ast
import pathlib
import unittest

PACKAGE = pathlib.Path(__file__).resolve().parent.parent / 'allornothing'
FUNCTIONS = {'texts': ('parse', 'is_name'), 'printing': ('show',)}


class TestLayout(unittest.TestCase):
    def test_files(self):
        files = [path for path in PACKAGE.rglob('*') if '__pycache__' not in path.parts and path.is_file()]
        self.assertIn(PACKAGE / '__init__.py', files)
        for path in files:
            with self.subTest(path.name):
                self.assertEqual(path.suffix, '.py')
                text = path.read_text(encoding='ascii')
                self.assertTrue(all(sign == '\n' or ' ' <= sign <= '~' for sign in text))
                lines = text.split('\n')
                self.assertLessEqual(len(lines), 400)
                self.assertLessEqual(max(len(line) for line in lines), 120)
                for node in ast.walk(ast.parse(text)):
                    if isinstance(node, ast.FunctionDef):
                        self.assertLessEqual(node.end_lineno - node.lineno + 1, 40, node.name)

    def test_functions_stand_in_their_files(self):
        for module, names in FUNCTIONS.items():
            tree = ast.parse((PACKAGE / (module + '.py')).read_text(encoding='ascii'))
            defined = [node.name for node in tree.body if isinstance(node, ast.FunctionDef)]
            for name in names:
                self.assertIn(name, defined)
