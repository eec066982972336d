"""The sizes and characters that the files of the package keep to."""

import ast
import pathlib
import unittest

PACKAGE = pathlib.Path(__file__).resolve().parent.parent / 'allornothing'
DEFINED = {
    'texts': ('parse', 'is_name'),
    'printing': ('show',),
    'programs': ('Program',),
    'machine': ('Machine',),
    'campaigns': ('campaign', 'exposed'),
    'rows': ('reduced', 'kernel', 'product'),
    'spaces': ('Space',),
    'traces': ('traced',),
    'summaries': ('Analysis',),
    'verdicts': ('verdicts', 'keeps_sums', 'changed_cells', 'change_witness', 'witness'),
    'papers': ('paper', 'is_paper', 'told_verdicts'),
    'logs': ('wrapped', 'all_or_nothing', 'forced', 'fewest'),
    'orders': ('needs', 'orders', 'reordered', 'cheapest', 'repaired'),
    'stores': ('Store', 'is_safe', 'transaction', 'Database'),
    'changes': ('changes', 'worse', 'stale'),
    'questions': ('Condition', 'where', 'read_condition', 'rows_of', 'selected', 'ask'),
    'console': ('Console',),
}
METHODS = {
    'Program': ('kinds keeps functions tree __getitem__ __contains__ __len__ __eq__ statements variables callees reached '
                'places replaced read cases cells'),
    'Machine': '__call__ passings replayed runs injected injections within',
    'Space': 'width rows __contains__ __len__ __bool__ __eq__ __or__ is_within',
    'Analysis': 'returns leaves',
    'Store': 'perform current log pending crashes recovered',
    'Database': 'perform current events crashed',
    'Condition': '__call__ __and__ __or__ __invert__ parts __eq__',
    'Console': 'execute',
}


class TestLayout(unittest.TestCase):
    def test_files(self):
        files = [path for path in PACKAGE.rglob('*') if '__pycache__' not in path.parts and path.is_file()]
        self.assertIn(PACKAGE / '__init__.py', files)
        for path in files:
            with self.subTest(path.name):
                self.assertEqual(path.suffix, '.py')
                text = path.read_text(encoding='ascii')
                self.assertTrue(all(sign == '\n' or ' ' <= sign <= '~' for sign in text))
                lines = text.split('\n')
                self.assertLessEqual(len(lines), 400)
                self.assertLessEqual(max(len(line) for line in lines), 120)
                for node in ast.walk(ast.parse(text)):
                    if isinstance(node, ast.FunctionDef):
                        self.assertLessEqual(node.end_lineno - node.lineno + 1, 40, node.name)

    def test_interface_stands_in_its_files(self):
        for module, names in DEFINED.items():
            body = ast.parse((PACKAGE / (module + '.py')).read_text(encoding='ascii')).body
            defined = [node.name for node in body if isinstance(node, (ast.FunctionDef, ast.ClassDef))]
            for name in names:
                self.assertIn(name, defined)
            for node in body:
                if isinstance(node, ast.ClassDef) and node.name in METHODS:
                    methods = [inner.name for inner in node.body if isinstance(inner, ast.FunctionDef)]
                    for name in METHODS[node.name].split():
                        self.assertIn(name, methods)

    def test_errors(self):
        body = ast.parse((PACKAGE / 'errors.py').read_text(encoding='ascii')).body
        self.assertEqual(len([node for node in body if isinstance(node, ast.ClassDef)]), 21)
