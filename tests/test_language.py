"""Some of the rules for the package's files that can be read off their text.

The numbers are those of the rules. The other rules are held by reading.
"""

import ast
import builtins
import unittest
from pathlib import Path

FOLDER = Path(__file__).resolve().parent.parent / "vowstair"
BUILTINS = """len range enumerate zip min max sum abs sorted reversed int str bool bytes list tuple dict set
isinstance ord repr any all divmod pow getattr hasattr setattr iter next map Exception ValueError TypeError KeyError
IndexError LookupError ZeroDivisionError ArithmeticError OverflowError RuntimeError NotImplementedError
AttributeError StopIteration NotImplemented property staticmethod classmethod super""".split()
LIBRARY = ["heapq", "math", "itertools", "collections"]
BARRED = """register mro elements open input law version_info with_traceback add_note attrgetter breakpoint builtins
compile copyright credits delattr dir eval exec exit gc globals hash help id importlib license locals methodcaller os
quit type vars sys typing enum Enum Flag Generic Protocol ABC namedtuple NamedTuple TypedDict
dataclass overload contextmanager""".split()
METHODS = """__init__ __eq__ __repr__ __str__ __len__ __enter__ __exit__ __call__ __iter__ __lt__ __le__ __gt__ __ge__
__ne__ __add__ __sub__ __mul__ __and__ __or__ __neg__ __pos__ __invert__ __bool__ __contains__ __getitem__
__setitem__""".split()


def files():
    return [path for path in sorted(FOLDER.rglob("*")) if path.is_file() and "__pycache__" not in path.parts]


def is_builtin(name):
    # A doctest in the same process makes _ a builtin.
    return name != "_" and hasattr(builtins, name)


def nodes(path):
    return list(ast.walk(ast.parse(path.read_text(encoding="ascii"))))


def names(found):
    """The names that a file gives and reads, without those of attributes."""
    for node in found:
        if isinstance(node, ast.Name):
            yield node.id
        elif isinstance(node, (ast.FunctionDef, ast.ClassDef)):
            yield node.name
        elif isinstance(node, (ast.arg, ast.keyword)) and node.arg is not None:
            yield node.arg
        elif isinstance(node, ast.alias):
            yield node.asname or node.name


class LanguageTest(unittest.TestCase):
    def test_the_folder_holds_plain_files_alone(self):
        self.assertIn(FOLDER / "__init__.py", files())
        for path in files():
            with self.subTest(path.name):
                self.assertRegex(path.name, r"^[a-z0-9_]+\.py$")

    def test_l10_sizes(self):
        for path in files():
            lines = path.read_text(encoding="ascii").split("\n")
            self.assertLessEqual(len(lines), 399, path.name)
            self.assertLessEqual(max(len(line) for line in lines), 120, path.name)
            for node in nodes(path):
                if isinstance(node, ast.FunctionDef):
                    self.assertLessEqual(node.end_lineno - node.lineno + 1, 40, (path.name, node.name))

    def test_l14_characters(self):
        for path in files():
            found = [sign for sign in path.read_text(encoding="ascii") if sign != "\n" and not " " <= sign <= "~"]
            self.assertEqual(found, [], path.name)

    def test_l2_imports_come_from_the_package(self):
        for path in files():
            for node in nodes(path):
                with self.subTest(path.name):
                    self.assertNotIsInstance(node, ast.Import)
                if isinstance(node, ast.ImportFrom):
                    known = node.module.startswith("vowstair.") or node.module in LIBRARY
                    self.assertTrue(known and node.level == 0, (path.name, node.module))
                    self.assertNotIn("*", [alias.name for alias in node.names])

    def test_l7_l27_values(self):
        for path in files():
            for node in nodes(path):
                with self.subTest(path.name, line=getattr(node, "lineno", 0)):
                    self.assertNotIsInstance(node, (ast.Div, ast.Global, ast.AsyncFunctionDef))
                    if isinstance(node, ast.Constant):
                        self.assertNotIsInstance(node.value, (float, complex))
                        self.assertFalse(isinstance(node.value, str) and "%" in node.value)

    def test_l8_builtins(self):
        known = set(BUILTINS)
        for path in files():
            found = [node.id for node in nodes(path) if isinstance(node, ast.Name) and is_builtin(node.id)]
            self.assertEqual([name for name in found if name not in known], [], path.name)

    def test_l12_l15_l17_names(self):
        for path in files():
            for name in names(nodes(path)):
                with self.subTest(path.name, name=name):
                    self.assertNotIn(name, BARRED)
                    self.assertTrue(name in METHODS or not name.startswith("__"))

    def test_l15_no_name_of_a_builtin_is_given_away(self):
        for path in files():
            for node in nodes(path):
                if isinstance(node, ast.arg):
                    self.assertFalse(is_builtin(node.arg), (path.name, node.arg))
                if isinstance(node, ast.Name) and isinstance(node.ctx, ast.Store):
                    self.assertFalse(is_builtin(node.id), (path.name, node.id))

    def test_constructs_that_rules_narrow_are_left_out(self):
        # L6, L7, L19, L21, L23, L24: what does not occur cannot be used wrongly.
        barred = (ast.GeneratorExp, ast.Set, ast.SetComp, ast.Lambda, ast.With, ast.Match, ast.NamedExpr,
                  ast.Nonlocal, ast.Global, ast.AnnAssign, ast.Starred, ast.Assert, ast.Delete, ast.YieldFrom)
        for path in files():
            for node in nodes(path):
                with self.subTest(path.name, line=getattr(node, "lineno", 0)):
                    self.assertNotIsInstance(node, barred)
                    if isinstance(node, ast.AugAssign):
                        self.assertIsInstance(node.value, ast.Constant)
                        self.assertIsInstance(node.target, (ast.Name, ast.Attribute))

    def test_l6_l19_own_errors_are_caught_by_name(self):
        own = {node.name for node in nodes(FOLDER / "errors.py") if isinstance(node, ast.ClassDef)}
        for path in files():
            for node in nodes(path):
                if isinstance(node, ast.Try):
                    for handler in node.handlers:
                        kinds = getattr(handler.type, "elts", [handler.type])
                        self.assertLessEqual({kind.id for kind in kinds}, own, path.name)
                    # A finally sets attributes to plain values.
                    for last in node.finalbody:
                        self.assertIsInstance(last, ast.Assign)
                        self.assertIsInstance(last.targets[0], ast.Attribute)
                        self.assertIsInstance(last.value, ast.Constant)

    def test_l19_errors_are_created_where_they_are_raised(self):
        own = {node.name for node in nodes(FOLDER / "errors.py") if isinstance(node, ast.ClassDef)} | {"TypeError"}
        for path in files():
            for node in nodes(path):
                if isinstance(node, ast.Raise):
                    self.assertIsInstance(node.exc, ast.Call, path.name)
                    self.assertIn(node.exc.func.id, own)
                    self.assertTrue(node.cause is None or node.cause.value is None)

    def test_l3_module_level(self):
        plain = (ast.Constant, ast.Tuple, ast.Dict, ast.List, ast.Load)
        for path in files():
            tree = ast.parse(path.read_text(encoding="ascii"))
            bound = []
            for at, node in enumerate(tree.body):
                with self.subTest(path.name, line=node.lineno):
                    if isinstance(node, ast.Assign):
                        self.assertEqual(len(node.targets), 1)
                        self.assertTrue(all(isinstance(part, plain) for part in ast.walk(node.value)))
                        bound.append(node.targets[0].id)
                    elif isinstance(node, ast.ImportFrom):
                        bound.extend([alias.asname or alias.name for alias in node.names])
                    elif isinstance(node, ast.Expr):
                        self.assertEqual(at, 0)
                    else:
                        self.assertIsInstance(node, (ast.FunctionDef, ast.ClassDef))
                        bound.append(node.name)
            self.assertEqual(sorted(set(bound)), sorted(bound), path.name)

    def test_l5_decorators(self):
        for path in files():
            for node in nodes(path):
                if isinstance(node, (ast.FunctionDef, ast.ClassDef)):
                    found = [ast.unparse(decorator) for decorator in node.decorator_list]
                    known = ([], ["property"], ["classmethod"], [node.name + ".setter"])
                    self.assertIn(found, known, (path.name, node.name))

    def test_l5_classes_with_items_are_not_iterable_by_index(self):
        for path in files():
            for node in nodes(path):
                if isinstance(node, ast.ClassDef):
                    own = [part for part in node.body if isinstance(part, ast.FunctionDef)]
                    setters = [part for part in own for word in part.decorator_list if isinstance(word, ast.Attribute)]
                    methods = [part.name for part in own if part not in setters]
                    self.assertEqual(sorted(set(methods)), sorted(methods))
                    self.assertTrue("__getitem__" not in methods or "__iter__" in methods)

    def test_l15_no_name_of_an_import_or_a_class_is_given_away(self):
        for path in files():
            found = nodes(path)
            imports = [node for node in found if isinstance(node, ast.ImportFrom)]
            taken = [alias.asname or alias.name for node in imports for alias in node.names]
            taken += [node.name for node in found if isinstance(node, ast.ClassDef)]
            given = [node.arg for node in found if isinstance(node, ast.arg)]
            given += [node.id for node in found if isinstance(node, ast.Name) and isinstance(node.ctx, ast.Store)]
            self.assertEqual([name for name in given if name in taken], [], path.name)

    def test_l16_no_two_files_import_from_each_other(self):
        known = {}
        for path in files():
            modules = [node.module for node in nodes(path) if isinstance(node, ast.ImportFrom)]
            known["vowstair." + path.stem] = [module for module in modules if module.startswith("vowstair.")]
        while known:
            free = [module for module, others in known.items() if not any(other in known for other in others)]
            self.assertNotEqual(free, [], known)
            for module in free:
                del known[module]

    def test_l16_imported_names_are_defined_in_that_file(self):
        for path in files():
            for node in nodes(path):
                if isinstance(node, ast.ImportFrom) and node.module.startswith("vowstair."):
                    other = FOLDER / (node.module.partition(".")[2] + ".py")
                    own = [part for part in ast.parse(other.read_text(encoding="ascii")).body]
                    defined = [part.name for part in own if isinstance(part, (ast.FunctionDef, ast.ClassDef))]
                    defined += [part.targets[0].id for part in own if isinstance(part, ast.Assign)]
                    for alias in node.names:
                        self.assertIn(alias.name, defined, path.name)

    def test_l18_no_name_is_a_method_and_an_attribute(self):
        methods, attributes = [], []
        for path in files():
            for node in nodes(path):
                if isinstance(node, ast.ClassDef):
                    methods += [part.name for part in node.body if isinstance(part, ast.FunctionDef)]
                if isinstance(node, ast.Attribute) and isinstance(node.ctx, ast.Store):
                    attributes.append(node.attr)
        self.assertEqual(sorted(set(methods) & set(attributes)), [])

    def test_l23_generators_are_iterated_at_once(self):
        for path in files():
            found = nodes(path)
            at_once = [node.iter for node in found if isinstance(node, (ast.For, ast.comprehension))]
            at_once += [node.args[0] for node in found if isinstance(node, ast.Call) and node.args
                        and isinstance(node.func, ast.Name) and node.func.id in ("list", "tuple", "sorted")]
            for node in found:
                if isinstance(node, ast.Name) and node.id == "nodes_of":
                    self.assertIn(node, [getattr(call, "func", None) for call in at_once], path.name)
                # The other one that yields is not used by the package.
                self.assertFalse(isinstance(node, ast.Attribute) and node.attr == "walk", path.name)


if __name__ == "__main__":
    unittest.main()
