"""The rules of LANGUAGE.md that can be read off the files of the package one by one: L1, L2, L8, L10, L14, L16, L27."""

import ast
import builtins
import pathlib
import re
import unittest

PACKAGE = pathlib.Path(__file__).resolve().parent.parent / "twobricks"

ALLOWED_BUILTINS = set(
    "len range enumerate zip map min max sum abs sorted reversed int str bool bytes list tuple dict set frozenset "
    "isinstance ord repr any all divmod pow getattr hasattr setattr iter next property staticmethod classmethod super "
    "Exception ValueError TypeError KeyError IndexError LookupError ZeroDivisionError ArithmeticError OverflowError "
    "RuntimeError NotImplementedError AttributeError StopIteration NotImplemented object".split()
)
ALLOWED_LIBRARIES = ("heapq", "math", "itertools", "collections", "__future__")


def package_files():
    return [path for path in sorted(PACKAGE.rglob("*")) if "__pycache__" not in path.parts]


class LanguageTest(unittest.TestCase):
    def each_tree(self):
        for path in package_files():
            if path.suffix == ".py":
                text = path.read_text(encoding="utf-8")
                yield text, ast.parse(text, filename=str(path))

    def test_files(self):
        for path in package_files():
            self.assertTrue(path.is_dir() or re.fullmatch(r"[a-z0-9_]+\.py", path.name), path)

    def test_size_and_signs(self):
        for text, tree in self.each_tree():
            self.assertRegex(text, r"\A[ -~\n]*\Z")
            self.assertLessEqual(len(text.splitlines()), 399)
            self.assertLessEqual(max(map(len, text.splitlines())), 120)
            for node in ast.walk(tree):
                if isinstance(node, ast.FunctionDef):
                    self.assertLessEqual(node.end_lineno - node.lineno + 1, 40, node.name)
                if isinstance(node, ast.Constant) and isinstance(node.value, str):
                    self.assertNotIn("%", node.value)

    def test_imports(self):
        for _, tree in self.each_tree():
            for node in ast.walk(tree):
                self.assertNotIsInstance(node, ast.Import)
                if isinstance(node, ast.ImportFrom):
                    self.assertIn(node, tree.body)
                    self.assertEqual(node.level, 0)
                    self.assertTrue(node.module.startswith("twobricks.") or node.module in ALLOWED_LIBRARIES)
                    for name in node.names:
                        self.assertNotEqual(name.name, "*")

    def test_builtins(self):
        barred = set(dir(builtins)) - ALLOWED_BUILTINS
        for _, tree in self.each_tree():
            for node in ast.walk(tree):
                if isinstance(node, ast.Name):
                    self.assertNotIn(node.id, barred)


if __name__ == "__main__":
    unittest.main()
