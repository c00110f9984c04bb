"""The rules of LANGUAGE.md that can be seen line by line; the others are kept by reading."""

import ast
import builtins
import pathlib
import unittest

FOLDER = pathlib.Path(__file__).resolve().parent.parent / "dealtarrays"
FILES = sorted(path for path in FOLDER.rglob("*") if path.is_file() and "__pycache__" not in path.parts)

BUILTINS = set(
    "len range enumerate zip min max sum abs sorted reversed int str bool list tuple dict set isinstance ord repr any "
    "all divmod iter next getattr hasattr setattr map type Exception ValueError TypeError KeyError IndexError "
    "LookupError ZeroDivisionError ArithmeticError OverflowError RuntimeError NotImplementedError StopIteration "
    "NotImplemented super property staticmethod classmethod".split()
)
DOUBLE = set("__init__ __eq__ __repr__ __str__ __len__ __enter__ __exit__ __call__ __iter__".split())
BARRED_NODES = (
    ast.Global, ast.AsyncFunctionDef, ast.AsyncFor, ast.AsyncWith, ast.Await, ast.Import, ast.Div, ast.MatMult,
)
IMPORTED = ("heapq", "math", "itertools", "collections", "__future__")


def trees():
    return [(path.name, ast.parse(path.read_text(encoding="utf-8"))) for path in FILES]


def nodes(kinds):
    return [(name, node) for name, tree in trees() for node in ast.walk(tree) if isinstance(node, kinds)]


class TestFiles(unittest.TestCase):
    def test_the_folder_has_only_python_files(self):
        self.assertTrue(FILES)
        for path in FILES:
            self.assertEqual(path.suffix, ".py", path)
        self.assertTrue((FOLDER / "__init__.py").is_file())

    def test_size_and_characters(self):
        for path in FILES:
            text = path.read_text(encoding="utf-8")
            self.assertTrue(all(" " <= sign <= "~" or sign == "\n" for sign in text), path)
            self.assertLessEqual(len(text.splitlines()), 399, path)
            self.assertLessEqual(max(len(line) for line in text.splitlines()), 120, path)
        for name, node in nodes(ast.FunctionDef):
            self.assertLessEqual(node.end_lineno - node.lineno + 1, 40, (name, node.name))

    def test_module_level(self):
        for name, tree in trees():
            for at, node in enumerate(tree.body):
                docstring = at == 0 and isinstance(node, ast.Expr) and isinstance(node.value, ast.Constant)
                plain = (ast.ImportFrom, ast.FunctionDef, ast.ClassDef, ast.Assign)
                self.assertTrue(docstring or isinstance(node, plain), (name, node.lineno))


class TestNames(unittest.TestCase):
    def test_imports(self):
        for name, node in nodes(ast.ImportFrom):
            self.assertEqual(node.level, 0, name)
            self.assertTrue(node.module.startswith("dealtarrays.") or node.module in IMPORTED, (name, node.module))
            for alias in node.names:
                self.assertNotEqual(alias.name, "*", name)

    def test_barred_nodes(self):
        for name, node in nodes(BARRED_NODES):
            self.fail(f"{name}: {node}")
        for name, node in nodes(ast.Constant):
            self.assertNotIsInstance(node.value, (float, complex), name)

    def test_builtins(self):
        # Whoever runs examples may leave _ there.
        known = set(dir(builtins)) - {"_"}
        for name, node in nodes(ast.Name):
            if node.id in known:
                self.assertIn(node.id, BUILTINS, (name, node.lineno))
                self.assertIsInstance(node.ctx, ast.Load, (name, node.lineno))

    def test_parameters_and_variables(self):
        # None has the name of a builtin, or of an import or a class of its file.
        for name, tree in trees():
            taken = set(dir(builtins)) - {"_"}
            taken |= {alias.name for node in tree.body if isinstance(node, ast.ImportFrom) for alias in node.names}
            taken |= {node.name for node in tree.body if isinstance(node, ast.ClassDef)}
            for node in ast.walk(tree):
                if isinstance(node, ast.arg):
                    self.assertNotIn(node.arg, taken, name)
                if isinstance(node, ast.Name) and isinstance(node.ctx, ast.Store):
                    self.assertNotIn(node.id, taken, name)

    def test_no_name_is_a_method_and_an_attribute(self):
        for _, tree in trees():
            methods = {node.name for found in tree.body if isinstance(found, ast.ClassDef)
                       for node in found.body if isinstance(node, ast.FunctionDef)}
            for name, node in nodes(ast.Attribute):
                if isinstance(node.ctx, ast.Store):
                    self.assertNotIn(node.attr, methods, name)

    def test_no_two_files_import_from_each_other(self):
        imports = {name.removesuffix(".py"): {
            node.module.split(".")[1] for node in tree.body
            if isinstance(node, ast.ImportFrom) and node.module.startswith("dealtarrays.")
        } for name, tree in trees()}
        done = set()
        while len(done) < len(imports):
            free = {name for name, needed in imports.items() if name not in done and needed <= done}
            self.assertTrue(free, set(imports) - done)
            done |= free

    def test_double_underscores(self):
        for name, node in nodes(ast.FunctionDef):
            if node.name.startswith("__"):
                self.assertIn(node.name, DOUBLE, name)

    def test_reductions_take_lists(self):
        # Beside a class with __eq__ these do not take a generator expression.
        for name, node in nodes(ast.Call):
            if isinstance(node.func, ast.Name) and node.func.id in ("any", "all", "min", "max", "sum", "sorted"):
                for argument in node.args:
                    self.assertNotIsInstance(argument, ast.GeneratorExp, (name, node.lineno))

    def test_module_level_tables_are_only_read(self):
        for name, tree in trees():
            tables = {
                node.targets[0].id for node in tree.body
                if isinstance(node, ast.Assign) and isinstance(node.value, (ast.Dict, ast.List))
            }
            for node in ast.walk(tree):
                if isinstance(node, ast.Call):
                    for argument in node.args:
                        passed = isinstance(argument, ast.Name) and argument.id in tables
                        self.assertFalse(passed, (name, node.lineno))
