"""The rules of form that can be read off the package's files: a part of L1 to L28, not all of them."""

import ast
import unittest
from pathlib import Path

PACKAGE = Path(__file__).resolve().parent.parent / "swaplattice"
LIBRARY = {"heapq", "math", "itertools", "collections", "__future__"}
BUILTINS = set("""len range enumerate zip min max sum abs sorted reversed int str bool bytes list tuple dict set frozenset
isinstance ord repr any all divmod pow getattr hasattr setattr iter next map type super property staticmethod classmethod
Exception ValueError TypeError KeyError IndexError LookupError ZeroDivisionError ArithmeticError OverflowError
RuntimeError NotImplementedError AttributeError StopIteration NotImplemented""".split())
PYTHONS_OWN = set(dir(__builtins__)) if not isinstance(__builtins__, dict) else set(__builtins__)
BARRED_NODES = (ast.Global, ast.AsyncFunctionDef, ast.AsyncFor, ast.AsyncWith, ast.Await, ast.Div, ast.Import)
AT_MODULE_LEVEL = (ast.ImportFrom, ast.FunctionDef, ast.ClassDef, ast.Assign)
# L25, but for `translate` and the methods of bytes, which this program has no use for.
METHODS = set("""append clear copy count endswith extend find get index insert isalnum isalpha isdigit islower isspace
isupper items join keys ljust lower lstrip partition pop remove replace reverse rfind rjust rpartition rsplit rstrip
setdefault split splitlines startswith strip update upper values zfill bit_length add discard sort""".split())
BARRED_WORDS = set("""type typing typing_extensions enum Enum IntEnum StrEnum Flag IntFlag Generic Protocol ABC ABCMeta
namedtuple NamedTuple TypedDict TYPE_CHECKING abstractmethod dataclass overload contextmanager""".split())
BARRED_NAMES = set("""register mro elements open input law version_info with_traceback add_note attrgetter breakpoint
builtins compile copyright credits delattr dir eval exec exit gc globals help id importlib license locals methodcaller
os quit vars sys""".split())


def files():
    return sorted(path for path in PACKAGE.rglob("*") if "__pycache__" not in path.parts and path.is_file())


def trees():
    return [(path, ast.parse(path.read_text(encoding="utf-8"))) for path in files()]


def module_path(name):
    return PACKAGE.parent / (name.replace(".", "/") + ".py")


def defined(path):
    """The names that a file defines at module level."""
    found = set()
    for part in ast.parse(path.read_text(encoding="utf-8")).body:
        if isinstance(part, (ast.FunctionDef, ast.ClassDef)):
            found.add(part.name)
        elif isinstance(part, ast.Assign):
            found.update(target.id for target in part.targets)
    return found


def bound_by(node):
    """The names that a part of a module binds at module level."""
    if isinstance(node, (ast.FunctionDef, ast.ClassDef)):
        return [node.name]
    if isinstance(node, ast.Assign):
        return [target.id for target in node.targets]
    if isinstance(node, ast.ImportFrom):
        return [part.asname or part.name for part in node.names]
    return []


def local_names(tree):
    """The names of parameters and of what functions assign."""
    found = set()
    for function in ast.walk(tree):
        if isinstance(function, ast.FunctionDef):
            for node in ast.walk(function):
                if isinstance(node, ast.arg):
                    found.add(node.arg)
                elif isinstance(node, ast.Name) and isinstance(node.ctx, ast.Store):
                    found.add(node.id)
    return found


def names_of(tree):
    """All names and attributes of a file."""
    named = {node.name for node in ast.walk(tree) if isinstance(node, (ast.FunctionDef, ast.ClassDef))}
    attributes = {node.attr for node in ast.walk(tree) if isinstance(node, ast.Attribute)}
    return named | attributes | local_names(tree) | {node.id for node in ast.walk(tree) if isinstance(node, ast.Name)}


class TestForm(unittest.TestCase):
    def test_files(self):
        self.assertTrue((PACKAGE / "__init__.py").is_file())
        for path in files():
            with self.subTest(path=path.name):
                self.assertRegex(path.name, r"^[a-z_][a-z0-9_]*\.py$")
                self.assertFalse(path.name.startswith("test"))

    def test_characters_and_size(self):
        for path in files():
            with self.subTest(path=path.name):
                text = path.read_text(encoding="utf-8")
                self.assertTrue(all(sign == "\n" or " " <= sign <= "~" for sign in text))
                self.assertLessEqual(len(text.splitlines()), 399)
                self.assertLessEqual(max(map(len, text.splitlines()), default=0), 120)

    def test_functions_have_forty_lines_at_most(self):
        for path, tree in trees():
            for node in ast.walk(tree):
                if isinstance(node, ast.FunctionDef):
                    with self.subTest(path=path.name, name=node.name):
                        self.assertLessEqual(node.end_lineno - node.lineno + 1, 40)

    def test_module_level(self):
        for path, tree in trees():
            for at, node in enumerate(tree.body):
                with self.subTest(path=path.name, line=node.lineno):
                    docstring = at == 0 and isinstance(node, ast.Expr) and isinstance(node.value, ast.Constant)
                    self.assertTrue(docstring or isinstance(node, AT_MODULE_LEVEL))

    def test_imports(self):
        for path, tree in trees():
            for node in ast.walk(tree):
                if isinstance(node, ast.ImportFrom):
                    with self.subTest(path=path.name, line=node.lineno):
                        self.assertIn(node, tree.body)
                        self.assertEqual(node.level, 0)
                        if node.module not in LIBRARY:
                            self.assertTrue({part.name for part in node.names} <= defined(module_path(node.module)))

    def test_no_two_files_import_from_each_other(self):
        imported = {}
        for path, tree in trees():
            imported[path.stem] = {node.module.split(".")[1] for node in tree.body
                                   if isinstance(node, ast.ImportFrom) and node.module not in LIBRARY}
        done = set()
        while len(done) < len(imported):
            ready = {name for name in imported if name not in done and imported[name] <= done}
            self.assertTrue(ready, imported)
            done |= ready

    def test_one_binding_for_each_name(self):
        for path, tree in trees():
            bound = [name for node in tree.body for name in bound_by(node)]
            with self.subTest(path=path.name):
                self.assertEqual(len(bound), len(set(bound)))
                classes = {node.name for node in tree.body if isinstance(node, ast.ClassDef)}
                imports = {name for node in tree.body if isinstance(node, ast.ImportFrom) for name in bound_by(node)}
                self.assertEqual(local_names(tree) & (classes | imports), set())

    def test_names(self):
        for path, tree in trees():
            for name in names_of(tree):
                with self.subTest(path=path.name, name=name):
                    self.assertRegex(name, r"^(_?[A-Za-z][A-Za-z0-9_]*|_|__init__)$")
                    self.assertNotIn(name, BARRED_NAMES | BARRED_WORDS)

    def test_strings(self):
        for path, tree in trees():
            for node in ast.walk(tree):
                if isinstance(node, ast.Constant) and isinstance(node.value, str):
                    with self.subTest(path=path.name, line=node.lineno):
                        self.assertNotIn("%", node.value)
                        self.assertNotIn("__", node.value)
            self.assertNotIn("\\", path.read_text(encoding="utf-8"))

    def test_methods(self):
        own = {node.name for _, tree in trees() for node in ast.walk(tree) if isinstance(node, ast.FunctionDef)}
        for path, tree in trees():
            for node in ast.walk(tree):
                if isinstance(node, ast.Call) and isinstance(node.func, ast.Attribute):
                    with self.subTest(path=path.name, line=node.lineno):
                        self.assertIn(node.func.attr, METHODS | own)

    def test_raised_errors_and_decorators(self):
        for path, tree in trees():
            for node in ast.walk(tree):
                with self.subTest(path=path.name, line=getattr(node, "lineno", 0)):
                    if isinstance(node, ast.Raise):
                        self.assertIsInstance(node.exc, ast.Call)
                        self.assertIsInstance(node.exc.func, ast.Name)
                    if isinstance(node, (ast.FunctionDef, ast.ClassDef)):
                        self.assertEqual(node.decorator_list, [])

    def test_statements_and_values(self):
        for path, tree in trees():
            for node in ast.walk(tree):
                with self.subTest(path=path.name, line=getattr(node, "lineno", 0)):
                    self.assertNotIsInstance(node, BARRED_NODES)
                    if isinstance(node, ast.Constant):
                        self.assertNotIsInstance(node.value, (float, complex))

    def test_builtins(self):
        for path, tree in trees():
            for node in ast.walk(tree):
                if isinstance(node, ast.Name) and node.id in PYTHONS_OWN:
                    with self.subTest(path=path.name, line=node.lineno):
                        self.assertIn(node.id, BUILTINS)
                        self.assertIsInstance(node.ctx, ast.Load)


if __name__ == "__main__":
    unittest.main()
