"""The rules of form that can be read off the package's files: a part of L1 to L28, not all of them."""

import ast
import unittest
from pathlib import Path

PACKAGE = Path(__file__).resolve().parent.parent / "swaplattice"
LIBRARY = {"heapq", "math", "itertools", "collections", "__future__"}
BUILTINS = set("""len range enumerate zip min max sum abs sorted reversed int str bool bytes list tuple dict set frozenset
isinstance ord repr any all divmod pow getattr hasattr setattr iter next map type super property staticmethod classmethod
Exception ValueError TypeError KeyError IndexError LookupError ZeroDivisionError ArithmeticError OverflowError
RuntimeError NotImplementedError AttributeError StopIteration NotImplemented""".split())
PYTHONS_OWN = set(dir(__builtins__)) if not isinstance(__builtins__, dict) else set(__builtins__)
BARRED_NODES = (ast.Global, ast.AsyncFunctionDef, ast.AsyncFor, ast.AsyncWith, ast.Await, ast.Div, ast.Import)
AT_MODULE_LEVEL = (ast.ImportFrom, ast.FunctionDef, ast.ClassDef, ast.Assign)


def files():
    return sorted(path for path in PACKAGE.rglob("*") if "__pycache__" not in path.parts and path.is_file())


def trees():
    return [(path, ast.parse(path.read_text(encoding="utf-8"))) for path in files()]


def module_path(name):
    return PACKAGE.parent / (name.replace(".", "/") + ".py")


def defined(path):
    """The names that a file defines at module level."""
    found = set()
    for part in ast.parse(path.read_text(encoding="utf-8")).body:
        if isinstance(part, (ast.FunctionDef, ast.ClassDef)):
            found.add(part.name)
        elif isinstance(part, ast.Assign):
            found.update(target.id for target in part.targets)
    return found


class TestForm(unittest.TestCase):
    def test_files(self):
        self.assertTrue((PACKAGE / "__init__.py").is_file())
        for path in files():
            with self.subTest(path=path.name):
                self.assertRegex(path.name, r"^[a-z_][a-z0-9_]*\.py$")
                self.assertFalse(path.name.startswith("test"))

    def test_characters_and_size(self):
        for path in files():
            with self.subTest(path=path.name):
                text = path.read_text(encoding="utf-8")
                self.assertTrue(all(sign == "\n" or " " <= sign <= "~" for sign in text))
                self.assertLessEqual(len(text.splitlines()), 399)
                self.assertLessEqual(max(map(len, text.splitlines()), default=0), 120)

    def test_functions_have_forty_lines_at_most(self):
        for path, tree in trees():
            for node in ast.walk(tree):
                if isinstance(node, ast.FunctionDef):
                    with self.subTest(path=path.name, name=node.name):
                        self.assertLessEqual(node.end_lineno - node.lineno + 1, 40)

    def test_module_level(self):
        for path, tree in trees():
            for at, node in enumerate(tree.body):
                with self.subTest(path=path.name, line=node.lineno):
                    docstring = at == 0 and isinstance(node, ast.Expr) and isinstance(node.value, ast.Constant)
                    self.assertTrue(docstring or isinstance(node, AT_MODULE_LEVEL))

    def test_imports(self):
        for path, tree in trees():
            for node in ast.walk(tree):
                if isinstance(node, ast.ImportFrom):
                    with self.subTest(path=path.name, line=node.lineno):
                        self.assertIn(node, tree.body)
                        self.assertEqual(node.level, 0)
                        if node.module not in LIBRARY:
                            self.assertTrue({part.name for part in node.names} <= defined(module_path(node.module)))

    def test_statements_and_values(self):
        for path, tree in trees():
            for node in ast.walk(tree):
                with self.subTest(path=path.name, line=getattr(node, "lineno", 0)):
                    self.assertNotIsInstance(node, BARRED_NODES)
                    if isinstance(node, ast.Constant):
                        self.assertNotIsInstance(node.value, (float, complex))

    def test_builtins(self):
        for path, tree in trees():
            for node in ast.walk(tree):
                if isinstance(node, ast.Name) and node.id in PYTHONS_OWN:
                    with self.subTest(path=path.name, line=node.lineno):
                        self.assertIn(node.id, BUILTINS)
                        self.assertIsInstance(node.ctx, ast.Load)


if __name__ == "__main__":
    unittest.main()
