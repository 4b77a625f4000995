"""Some of the rules that the files of the package keep to."""

import ast
import builtins
import pathlib
import unittest

ROOT = pathlib.Path(__file__).resolve().parent.parent
PACKAGE = ROOT / "framecues"
BUILTINS = """len range enumerate zip min max sum abs sorted reversed int str bool bytes list tuple dict set isinstance
any all type ValueError super""".split()


def nodes(path):
    return list(ast.walk(ast.parse(path.read_text(encoding="utf-8"))))


class FormTest(unittest.TestCase):
    def setUp(self):
        self.files = sorted(PACKAGE.glob("*.py"))

    def test_the_package_holds_python_files_alone(self):
        names = [path.name for path in PACKAGE.iterdir() if path.name != "__pycache__"]
        self.assertEqual(sorted(names), [path.name for path in self.files])
        self.assertIn("__init__.py", names)

    def test_files_and_lines_are_short_and_ascii(self):
        for path in self.files:
            text = path.read_bytes().decode("ascii")
            lines = text.split("\n")
            self.assertLessEqual(len(lines) - 1, 399, path)
            for line in lines:
                self.assertLessEqual(len(line), 120, path)
                self.assertTrue(line == "" or line.isprintable(), path)

    def test_functions_are_short(self):
        for path in self.files:
            for node in nodes(path):
                if isinstance(node, ast.FunctionDef):
                    self.assertLessEqual(node.end_lineno - node.lineno + 1, 40, node.name)

    def test_imports_come_from_the_package(self):
        for path in self.files:
            for node in nodes(path):
                self.assertNotIsInstance(node, ast.Import, path)
                if isinstance(node, ast.ImportFrom):
                    own = node.module.startswith("framecues.") and node.level == 0
                    library = node.module == "math" and [name.name for name in node.names] == ["gcd"]
                    self.assertTrue(own or library, (path, node.module))

    def test_no_floats_and_no_inexact_division(self):
        for path in self.files:
            for node in nodes(path):
                self.assertNotIsInstance(node, ast.Div, path)
                if isinstance(node, ast.Constant):
                    self.assertNotIsInstance(node.value, (float, complex), path)

    def test_only_the_allowed_builtins(self):
        for path in self.files:
            for node in nodes(path):
                if isinstance(node, ast.Name) and node.id in dir(builtins):
                    self.assertIn(node.id, BUILTINS, path)
