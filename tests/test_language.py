"""Some of the rules for the package's files that can be read off their text.

The numbers are those of the rules. The other rules are held by reading.
"""

import ast
import builtins
import unittest
from pathlib import Path

FOLDER = Path(__file__).resolve().parent.parent / "vowstair"
BUILTINS = """len range enumerate zip min max sum abs sorted reversed int str bool bytes list tuple dict set
isinstance ord repr any all divmod pow getattr hasattr setattr iter next map Exception ValueError TypeError KeyError
IndexError LookupError ZeroDivisionError ArithmeticError OverflowError RuntimeError NotImplementedError
AttributeError StopIteration NotImplemented property staticmethod classmethod super""".split()
LIBRARY = ["heapq", "math", "itertools", "collections"]
BARRED = """register mro elements open input law version_info with_traceback add_note attrgetter breakpoint builtins
compile copyright credits delattr dir eval exec exit gc globals hash help id importlib license locals methodcaller os
quit type vars sys typing enum Enum Flag Generic Protocol ABC namedtuple NamedTuple TypedDict
dataclass overload contextmanager""".split()
METHODS = """__init__ __eq__ __repr__ __str__ __len__ __enter__ __exit__ __call__ __iter__ __lt__ __le__ __gt__ __ge__
__ne__ __add__ __sub__ __mul__ __and__ __or__ __neg__ __pos__ __invert__ __bool__ __contains__ __getitem__
__setitem__""".split()


def files():
    return [path for path in sorted(FOLDER.rglob("*")) if path.is_file() and "__pycache__" not in path.parts]


def nodes(path):
    return list(ast.walk(ast.parse(path.read_text(encoding="ascii"))))


def names(found):
    """The names that a file gives and reads, without those of attributes."""
    for node in found:
        if isinstance(node, ast.Name):
            yield node.id
        elif isinstance(node, (ast.FunctionDef, ast.ClassDef)):
            yield node.name
        elif isinstance(node, (ast.arg, ast.keyword)) and node.arg is not None:
            yield node.arg
        elif isinstance(node, ast.alias):
            yield node.asname or node.name


class LanguageTest(unittest.TestCase):
    def test_the_folder_holds_plain_files_alone(self):
        self.assertIn(FOLDER / "__init__.py", files())
        for path in files():
            with self.subTest(path.name):
                self.assertRegex(path.name, r"^[a-z0-9_]+\.py$")

    def test_l10_sizes(self):
        for path in files():
            lines = path.read_text(encoding="ascii").split("\n")
            self.assertLessEqual(len(lines), 399, path.name)
            self.assertLessEqual(max(len(line) for line in lines), 120, path.name)
            for node in nodes(path):
                if isinstance(node, ast.FunctionDef):
                    self.assertLessEqual(node.end_lineno - node.lineno + 1, 40, (path.name, node.name))

    def test_l14_characters(self):
        for path in files():
            found = [sign for sign in path.read_text(encoding="ascii") if sign != "\n" and not " " <= sign <= "~"]
            self.assertEqual(found, [], path.name)

    def test_l2_imports_come_from_the_package(self):
        for path in files():
            for node in nodes(path):
                with self.subTest(path.name):
                    self.assertNotIsInstance(node, ast.Import)
                if isinstance(node, ast.ImportFrom):
                    known = node.module.startswith("vowstair.") or node.module in LIBRARY
                    self.assertTrue(known and node.level == 0, (path.name, node.module))
                    self.assertNotIn("*", [alias.name for alias in node.names])

    def test_l7_l27_values(self):
        for path in files():
            for node in nodes(path):
                with self.subTest(path.name, line=getattr(node, "lineno", 0)):
                    self.assertNotIsInstance(node, (ast.Div, ast.Global, ast.AsyncFunctionDef))
                    if isinstance(node, ast.Constant):
                        self.assertNotIsInstance(node.value, (float, complex))
                        self.assertFalse(isinstance(node.value, str) and "%" in node.value)

    def test_l8_builtins(self):
        known = set(BUILTINS)
        for path in files():
            found = [node.id for node in nodes(path) if isinstance(node, ast.Name) and hasattr(builtins, node.id)]
            self.assertEqual([name for name in found if name not in known], [], path.name)

    def test_l12_l15_l17_names(self):
        for path in files():
            for name in names(nodes(path)):
                with self.subTest(path.name, name=name):
                    self.assertNotIn(name, BARRED)
                    self.assertTrue(name in METHODS or not name.startswith("__"))

    def test_l15_no_name_of_a_builtin_is_given_away(self):
        for path in files():
            for node in nodes(path):
                if isinstance(node, ast.arg):
                    self.assertFalse(hasattr(builtins, node.arg), (path.name, node.arg))
                if isinstance(node, ast.Name) and isinstance(node.ctx, ast.Store):
                    self.assertFalse(hasattr(builtins, node.id), (path.name, node.id))


if __name__ == "__main__":
    unittest.main()
