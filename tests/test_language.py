"""Rules of LANGUAGE.md that can be read off the files of the package: L1 to L8, L10, L12, L14 to L20, L25 to L28."""

import ast
import builtins
import pathlib
import re
import unittest

PACKAGE = pathlib.Path(__file__).resolve().parent.parent / "twobricks"

ALLOWED_BUILTINS = set(
    "len range enumerate zip map min max sum abs sorted reversed int str bool bytes list tuple dict set frozenset "
    "isinstance ord repr any all divmod pow getattr hasattr setattr iter next property staticmethod classmethod super "
    "Exception ValueError TypeError KeyError IndexError LookupError ZeroDivisionError ArithmeticError OverflowError "
    "RuntimeError NotImplementedError AttributeError StopIteration NotImplemented object".split()
)
ALLOWED_LIBRARIES = ("heapq", "math", "itertools", "collections", "__future__")

# L17: in no file, but in comments and docstrings.
BARRED_WORDS = set(
    "type typing typing_extensions enum Enum IntEnum StrEnum Flag IntFlag Generic Protocol ABC ABCMeta namedtuple "
    "NamedTuple TypedDict TYPE_CHECKING abstractmethod dataclass overload contextmanager".split()
)
BARRED_NAMES = set(
    "register mro elements open input law version_info with_traceback add_note attrgetter breakpoint builtins compile "
    "copyright credits delattr dir eval exec exit gc globals help id importlib license locals methodcaller os quit "
    "vars sys".split()
)
BARRED_NODES = (
    ast.Global, ast.AsyncFunctionDef, ast.AsyncFor, ast.AsyncWith, ast.Await, ast.Div, ast.MatMult, ast.Import,
)

# L5: of a class with operators, whether it is an error class or not.
PLAIN_SIGNS = set("__init__ __eq__ __repr__ __str__ __len__".split())
SIGNS = PLAIN_SIGNS | set(
    "__call__ __iter__ __contains__ __getitem__ __setitem__ __bool__ __invert__ __mul__ __iadd__".split()
)

# L25: methods of builtin values that the package may call; all others that are called are its own.
VALUE_METHODS = set(
    "append clear copy count endswith extend find get index insert isalnum isalpha isdigit islower isspace isupper "
    "items join keys ljust lower lstrip partition pop remove replace reverse rfind rjust rpartition rsplit rstrip "
    "setdefault split splitlines startswith strip update upper values zfill bit_length add discard".split()
)
MODIFYING = set("append clear extend insert pop remove reverse setdefault update add discard".split())


def package_files():
    return [path for path in sorted(PACKAGE.rglob("*")) if "__pycache__" not in path.parts]


class LanguageTest(unittest.TestCase):
    def each_tree(self):
        for path in package_files():
            if path.suffix == ".py":
                text = path.read_text(encoding="utf-8")
                yield text, ast.parse(text, filename=str(path))

    def test_files(self):
        for path in package_files():
            self.assertTrue(path.is_dir() or re.fullmatch(r"[a-z0-9_]+\.py", path.name), path)

    def test_size_and_signs(self):
        for text, tree in self.each_tree():
            self.assertRegex(text, r"\A[ -~\n]*\Z")
            self.assertLessEqual(len(text.splitlines()), 399)
            self.assertLessEqual(max(map(len, text.splitlines())), 120)
            for node in ast.walk(tree):
                if isinstance(node, ast.FunctionDef):
                    self.assertLessEqual(node.end_lineno - node.lineno + 1, 40, node.name)
                if isinstance(node, ast.Constant) and isinstance(node.value, str):
                    self.assertNotIn("%", node.value)

    def test_imports(self):
        for _, tree in self.each_tree():
            for node in ast.walk(tree):
                self.assertNotIsInstance(node, ast.Import)
                if isinstance(node, ast.ImportFrom):
                    self.assertIn(node, tree.body)
                    self.assertEqual(node.level, 0)
                    self.assertTrue(node.module.startswith("twobricks.") or node.module in ALLOWED_LIBRARIES)
                    for name in node.names:
                        self.assertNotEqual(name.name, "*")

    def test_no_two_files_import_from_each_other(self):
        imported = {}
        for path in package_files():
            if path.suffix == ".py":
                tree = ast.parse(path.read_text(encoding="utf-8"))
                modules = [node.module for node in tree.body if isinstance(node, ast.ImportFrom)]
                imported["twobricks." + path.stem] = [name for name in modules if name.startswith("twobricks.")]
        for _ in range(len(imported)):
            # What imports nothing that is left can be left out; at last all can.
            imported = {name: [one for one in imported[name] if one in imported] for name in imported}
            imported = {name: needs for name, needs in imported.items() if needs}
        self.assertEqual(imported, {})

    def test_module_level(self):
        for text, tree in self.each_tree():
            bound = []
            for at, node in enumerate(tree.body):
                if isinstance(node, ast.ImportFrom):
                    bound.extend(name.asname or name.name for name in node.names)
                elif isinstance(node, (ast.FunctionDef, ast.ClassDef)):
                    bound.append(node.name)
                elif isinstance(node, ast.Assign):
                    self.assertEqual([name.__class__ for name in node.targets], [ast.Name])
                    bound.append(node.targets[0].id)
                else:
                    self.assertEqual((at, node.__class__), (0, ast.Expr))
            self.assertEqual(sorted(bound), sorted(set(bound)))
            self.check_local_names(tree, set(bound))

    def check_local_names(self, tree, bound):
        """No parameter and no local name is one that the file imports or a builtin's."""
        imports = {name.name for node in tree.body if isinstance(node, ast.ImportFrom) for name in node.names}
        names = [node.arg for node in ast.walk(tree) if isinstance(node, ast.arg)]
        names += [node.id for node in ast.walk(tree) if isinstance(node, ast.Name) and isinstance(node.ctx, ast.Store)]
        for name in names:
            self.assertNotIn(name, imports)
        for name in names + list(bound - imports):
            self.assertNotIn(name, dir(builtins))
            self.assertNotIn(name, BARRED_NAMES)
            self.assertRegex(name, r"\A(_|_?[A-Za-z][A-Za-z0-9_]*)\Z")

    def test_statements_and_values(self):
        for _, tree in self.each_tree():
            docstrings = {node.body[0].value for node in ast.walk(tree)
                          if isinstance(node, (ast.Module, ast.ClassDef, ast.FunctionDef)) and ast.get_docstring(node)}
            for node in ast.walk(tree):
                self.assertNotIsInstance(node, BARRED_NODES)
                if isinstance(node, ast.Constant):
                    self.assertNotIsInstance(node.value, (float, complex))
                    if isinstance(node.value, str) and node not in docstrings:
                        self.assertFalse(BARRED_WORDS & set(re.findall(r"\w+", node.value)))
                for name in ("id", "attr", "arg", "name"):
                    self.assertNotIn(getattr(node, name, None), BARRED_WORDS)
                if isinstance(node, ast.Raise):
                    self.assertIsInstance(node.exc, ast.Call)

    def test_methods_that_are_called(self):
        own = {node.name for found in self.each_class() for node in found.body if isinstance(node, ast.FunctionDef)}
        for _, tree in self.each_tree():
            for node in ast.walk(tree):
                if isinstance(node, ast.Call) and isinstance(node.func, ast.Attribute):
                    self.assertIn(node.func.attr, own | VALUE_METHODS)
                    if node.func.attr in VALUE_METHODS:
                        self.assertEqual(node.keywords, [])

    def each_class(self):
        for _, tree in self.each_tree():
            for node in tree.body:
                if isinstance(node, ast.ClassDef):
                    yield node

    def test_classes(self):
        for found in self.each_class():
            methods = [node for node in found.body if isinstance(node, ast.FunctionDef)]
            names = [node.name for node in methods]
            self.assertEqual(found.decorator_list, [])
            self.assertEqual(sorted(names), sorted(set(names)), found.name)
            is_error = found.name != "Yard" and any(base.id in ("BrickError", "ValueError") for base in found.bases)
            for node in methods:
                if node.name.startswith("__"):
                    self.assertIn(node.name, PLAIN_SIGNS if is_error else SIGNS)
                self.assertLessEqual(len(node.decorator_list), 1)
                for word in node.decorator_list:
                    self.assertIn(word.id, ("property", "classmethod"))
                    self.assertFalse(is_error)
            self.assertTrue("__getitem__" not in names or "__iter__" in names, found.name)

    def test_names_of_attributes(self):
        """No name is a method and an attribute, and what is read of an object is there."""
        methods, attributes = set(), set()
        for found in self.each_class():
            methods |= {node.name for node in found.body if isinstance(node, ast.FunctionDef)}
            attributes |= {node.attr for node in ast.walk(found)
                           if isinstance(node, ast.Attribute) and isinstance(node.ctx, ast.Store)}
        self.assertFalse(methods & attributes)
        for _, tree in self.each_tree():
            for node in ast.walk(tree):
                if isinstance(node, ast.Attribute) and isinstance(node.ctx, ast.Load):
                    self.assertIn(node.attr, methods | attributes | VALUE_METHODS | {"__class__", "__name__"})

    def test_signs_change_nothing(self):
        """L5, L28: what Python's signs and properties run neither assigns attributes nor modifies what it is passed."""
        for found in self.each_class():
            for node in found.body:
                if isinstance(node, ast.FunctionDef) and self.must_change_nothing(node):
                    for part in ast.walk(node):
                        self.assertNotIsInstance(part, (ast.AugAssign, ast.Delete, ast.Yield, ast.YieldFrom))
                        if isinstance(part, (ast.Attribute, ast.Subscript)):
                            self.assertIsInstance(part.ctx, ast.Load)
                        if isinstance(part, ast.Call) and isinstance(part.func, ast.Attribute):
                            self.assertNotIn(part.func.attr, MODIFYING)

    def must_change_nothing(self, node):
        if any(word.id == "property" for word in node.decorator_list):
            return True
        return node.name.startswith("__") and node.name not in ("__init__", "__call__", "__setitem__", "__iadd__")

    def test_what_texts_and_lengths_return(self):
        for found in self.each_class():
            for node in found.body:
                if isinstance(node, ast.FunctionDef) and node.name in ("__str__", "__len__", "__bool__", "__iter__"):
                    last = node.body[-1]
                    self.assertEqual(len(node.body) - (ast.get_docstring(node) is not None), 1)
                    if node.name == "__str__":
                        self.assertIsInstance(last.value, ast.JoinedStr)
                    elif isinstance(last, ast.Return):
                        self.assertEqual(last.value.func.id, node.name.strip("_"))
                    else:
                        self.assertEqual((node.name, last.exc.func.id), ("__iter__", "TypeError"))

    def test_narrow_forms(self):
        for _, tree in self.each_tree():
            for node in ast.walk(tree):
                # No += but that of yards; no generator expression, as there are classes with an ==.
                self.assertNotIsInstance(node, (ast.GeneratorExp, ast.SetComp, ast.NamedExpr, ast.Match, ast.AnnAssign))
                if isinstance(node, ast.AugAssign):
                    self.assertEqual(ast.unparse(node.target), "yard")
                if isinstance(node, ast.Compare):
                    for sign, side in zip(node.ops, node.comparators):
                        if isinstance(sign, (ast.Is, ast.IsNot)):
                            self.assertIn(getattr(side, "value", 0), (None, True, False))
                if isinstance(node, ast.Try):
                    self.check_try(node)

    def check_try(self, node):
        """L6, L19: only own errors are caught; a finally assigns plain values to attributes."""
        for handler in node.handlers:
            self.assertEqual(handler.type.id, "BrickError")
        for statement in node.finalbody:
            self.assertIsInstance(statement, ast.Assign)
            self.assertIsInstance(statement.targets[0], ast.Attribute)
            self.assertIsInstance(statement.value, (ast.Name, ast.Constant))

    def test_builtins(self):
        barred = set(dir(builtins)) - ALLOWED_BUILTINS
        for _, tree in self.each_tree():
            for node in ast.walk(tree):
                if isinstance(node, ast.Name):
                    self.assertNotIn(node.id, barred)


if __name__ == "__main__":
    unittest.main()
