"""Some of the rules that the files of the package keep to."""

import ast
import builtins
import pathlib
import unittest

ROOT = pathlib.Path(__file__).resolve().parent.parent
PACKAGE = ROOT / "framecues"
BUILTINS = """len range enumerate zip min max sum abs sorted reversed int str bool bytes list tuple dict set isinstance
any all ValueError super""".split()
METHODS = """append clear copy count endswith extend find get index insert isalnum isalpha isdigit islower isspace isupper
items join keys ljust lower lstrip partition pop remove replace reverse rfind rjust rpartition rsplit rstrip setdefault
split splitlines startswith strip update upper values zfill bit_length isascii""".split()
NO_ATTRIBUTES = """items keys values pop update append clear extend insert remove reverse setdefault sort args encode
decode hex fromhex format real imag numerator denominator conjugate mro""".split()
# A session of doctest leaves an underscore among the builtins.
BUILT_IN = [name for name in dir(builtins) if name != "_"]
NO_WORDS = """type typing enum Enum Flag Generic Protocol ABC namedtuple NamedTuple dataclass overload register elements
open input law""".split()


def nodes(path):
    return list(ast.walk(ast.parse(path.read_text(encoding="utf-8"))))


def functions(path):
    return [node for node in nodes(path) if isinstance(node, ast.FunctionDef)]


def classes(path):
    return [node for node in nodes(path) if isinstance(node, ast.ClassDef)]


def imports(path):
    return [node for node in nodes(path) if isinstance(node, ast.ImportFrom)]


def imported(path):
    return [alias.name for node in imports(path) for alias in node.names]


def locals_of(function):
    arguments = function.args.args + function.args.kwonlyargs + function.args.posonlyargs
    names = [argument.arg for argument in arguments]
    for node in ast.walk(function):
        if isinstance(node, ast.Name) and isinstance(node.ctx, ast.Store):
            names.append(node.id)
    return names


def methods_of(found):
    return [node.name for node in found.body if isinstance(node, ast.FunctionDef)]


def attributes_of(found):
    names = []
    for node in ast.walk(found):
        if isinstance(node, ast.Attribute) and isinstance(node.ctx, ast.Store):
            names.append(node.attr)
    return names


class FilesTest(unittest.TestCase):
    def setUp(self):
        self.files = sorted(PACKAGE.glob("*.py"))

    def test_the_package_holds_python_files_alone(self):
        names = [path.name for path in PACKAGE.iterdir() if path.name != "__pycache__"]
        self.assertEqual(sorted(names), [path.name for path in self.files])
        self.assertIn("__init__.py", names)

    def test_files_and_lines_are_short_and_ascii(self):
        for path in self.files:
            text = path.read_bytes().decode("ascii")
            lines = text.split("\n")
            self.assertLessEqual(len(lines) - 1, 399, path)
            for line in lines:
                self.assertLessEqual(len(line), 120, path)
                self.assertTrue(line == "" or line.isprintable(), path)

    def test_functions_are_short_and_plain(self):
        for path in self.files:
            for node in functions(path):
                self.assertLessEqual(node.end_lineno - node.lineno + 1, 40, node.name)
                self.assertEqual(node.decorator_list, [], node.name)

    def test_imports_come_from_the_package(self):
        for path in self.files:
            for node in nodes(path):
                self.assertNotIsInstance(node, ast.Import, path)
            for node in imports(path):
                own = node.module.startswith("framecues.") and node.level == 0
                library = node.module == "math" and [name.name for name in node.names] == ["gcd"]
                self.assertTrue(own or library, (path, node.module))
                if own:
                    self.assertTrue((PACKAGE / (node.module.split(".")[1] + ".py")).exists())

    def test_imports_are_used_and_lead_in_no_circle(self):
        needs = {}
        for path in self.files:
            used = [node.id for node in nodes(path) if isinstance(node, ast.Name)]
            for name in imported(path):
                self.assertIn(name, used, path)
            self.assertEqual(len(imported(path)), len(set(imported(path))), path)
            needs[path.stem] = {node.module.split(".")[-1] for node in imports(path)}
        while needs:
            free = [stem for stem in needs if not needs[stem] & set(needs)]
            self.assertTrue(free, needs)
            for stem in free:
                del needs[stem]

    def test_imports_name_the_file_that_defines_the_name(self):
        for path in self.files:
            for node in imports(path):
                if node.module != "math":
                    tree = ast.parse((PACKAGE / (node.module.split(".")[1] + ".py")).read_text())
                    made = [part.name for part in tree.body if isinstance(part, (ast.FunctionDef, ast.ClassDef))]
                    for part in tree.body:
                        if isinstance(part, ast.Assign):
                            made += [target.id for target in part.targets]
                    for alias in node.names:
                        self.assertIn(alias.name, made, path)
                        self.assertIsNone(alias.asname)


class StatementsTest(unittest.TestCase):
    def setUp(self):
        self.files = sorted(PACKAGE.glob("*.py"))

    def test_no_floats_and_no_inexact_division(self):
        for path in self.files:
            for node in nodes(path):
                self.assertNotIsInstance(node, ast.Div, path)
                if isinstance(node, ast.Constant):
                    self.assertNotIsInstance(node.value, (float, complex), path)

    def test_plain_statements_alone(self):
        barred = (ast.Try, ast.Global, ast.Nonlocal, ast.With, ast.Yield, ast.YieldFrom, ast.GeneratorExp, ast.Set,
                  ast.SetComp, ast.NamedExpr, ast.AnnAssign, ast.AsyncFunctionDef, ast.JoinedStr, ast.Starred)
        for path in self.files:
            for node in nodes(path):
                self.assertNotIsInstance(node, barred, (path, getattr(node, "lineno", None)))

    def test_modules_contain_plain_values_functions_and_classes(self):
        for path in self.files:
            for part in ast.parse(path.read_text()).body:
                self.assertIsInstance(part, (ast.Expr, ast.ImportFrom, ast.Assign, ast.FunctionDef, ast.ClassDef))
                if isinstance(part, ast.Assign):
                    allowed = (ast.Constant, ast.Tuple, ast.Dict, ast.Name, ast.Load, ast.UnaryOp, ast.USub)
                    for node in ast.walk(part.value):
                        self.assertIsInstance(node, allowed, (path, part.lineno))

    def test_is_stands_beside_none_alone(self):
        for path in self.files:
            for node in nodes(path):
                if isinstance(node, ast.Compare) and isinstance(node.ops[0], (ast.Is, ast.IsNot)):
                    right = node.comparators[0]
                    self.assertTrue(isinstance(right, ast.Constant) and right.value is None, (path, node.lineno))


class NamesTest(unittest.TestCase):
    def setUp(self):
        self.files = sorted(PACKAGE.glob("*.py"))

    def test_only_the_allowed_builtins(self):
        for path in self.files:
            for node in nodes(path):
                if isinstance(node, ast.Name) and node.id in BUILT_IN:
                    self.assertIn(node.id, BUILTINS, path)

    def test_no_local_has_the_name_of_an_import_a_class_or_a_builtin(self):
        for path in self.files:
            barred = imported(path) + [found.name for found in classes(path)] + BUILT_IN
            for function in functions(path):
                for name in locals_of(function):
                    self.assertTrue(name == "_" or name not in barred, (path, function.name, name))

    def test_underscores_stand_in_front_of_letters_alone(self):
        for path in self.files:
            for node in nodes(path):
                if isinstance(node, ast.Name) and isinstance(node.ctx, ast.Load):
                    self.assertNotEqual(node.id, "_", path)
            for found in classes(path):
                self.assertTrue(found.name[0].isalpha(), found.name)
            for function in functions(path):
                self.assertTrue(function.name in ("__init__", "__eq__") or function.name[:2] != "__", function.name)

    def test_no_name_is_a_method_and_an_attribute(self):
        methods, attributes = [], []
        for path in self.files:
            for found in classes(path):
                methods += methods_of(found)
            for node in nodes(path):
                if isinstance(node, ast.Attribute) and isinstance(node.ctx, ast.Store):
                    attributes.append(node.attr)
        self.assertEqual(set(methods) & set(attributes), set())
        self.assertEqual(set(attributes) & set(NO_ATTRIBUTES), set())
        for path in self.files:
            for node in nodes(path):
                if isinstance(node, ast.Attribute) and isinstance(node.ctx, ast.Load):
                    self.assertIn(node.attr, methods + attributes + METHODS + ["__init__"], (path, node.lineno))

    def test_attributes_are_assigned_through_a_local_name(self):
        for path in self.files:
            for function in functions(path):
                for node in ast.walk(function):
                    if isinstance(node, ast.Attribute) and isinstance(node.ctx, ast.Store):
                        self.assertIsInstance(node.value, ast.Name, (path, node.lineno))
                        self.assertIn(node.value.id, locals_of(function), (path, node.lineno))

    def test_barred_words(self):
        for path in self.files:
            for node in nodes(path):
                names = [getattr(node, part, None) for part in ("id", "name", "attr", "arg")]
                for name in names:
                    self.assertNotIn(name, NO_WORDS, path)
                if isinstance(node, ast.Constant) and isinstance(node.value, str):
                    self.assertNotIn("%", node.value.replace("\n", ""), path)

    def test_methods_of_one_name_take_the_same_arguments(self):
        counts = {}
        for path in self.files:
            for found in classes(path):
                for part in found.body:
                    if isinstance(part, ast.FunctionDef) and part.name != "__init__":
                        counts.setdefault(part.name, set()).add((len(part.args.args), len(part.args.defaults)))
        self.assertEqual([name for name in counts if len(counts[name]) > 1], [])
