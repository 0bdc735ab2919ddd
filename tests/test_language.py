"""The package keeps to its small part of the language; the rules' numbers stand at the tests."""

import ast
import re
import unittest
from pathlib import Path

PACKAGE = Path(__file__).resolve().parent.parent / "drawnword"
FILES = sorted(PACKAGE.glob("**/*.py"))
BARRED = (ast.GeneratorExp, ast.Yield, ast.YieldFrom, ast.With, ast.Global, ast.Nonlocal, ast.NamedExpr, ast.Match,
          ast.AsyncFunctionDef, ast.Await, ast.Div, ast.MatMult)
BUILT_IN = set("""len range enumerate zip min max sum abs sorted reversed int str bool bytes list tuple dict set
    isinstance ord repr any all divmod ValueError KeyError IndexError LookupError ZeroDivisionError""".split())
BARRED_WORDS = re.compile(r"\b(type|typing|enum|Enum|Flag|Generic|Protocol|ABC|namedtuple|NamedTuple|TypedDict)\b"
                          r"|dataclass|overload|contextmanager")


class Language(unittest.TestCase):

    def each(self):
        self.assertTrue(FILES)
        for path in FILES:
            text = path.read_text(encoding="utf-8")
            yield path, text, ast.parse(text)

    def test_nothing_else_lies_in_the_package_l1(self):
        others = [path for path in PACKAGE.rglob("*") if "__pycache__" not in path.parts and path not in FILES]
        self.assertEqual(others, [])

    def test_imports_are_the_packages_own_l2_l16(self):
        for path, text, tree in self.each():
            for node in ast.walk(tree):
                self.assertNotIsInstance(node, ast.Import, path)
                if isinstance(node, ast.ImportFrom):
                    self.assertEqual(node.level, 0, path)
                    self.assertTrue(node.module.startswith("drawnword."), path)
                    self.assertIn(node, tree.body)

    def test_sizes_l10(self):
        for path, text, tree in self.each():
            rows = text.split("\n")
            self.assertLessEqual(len(rows), 400, path)
            self.assertLessEqual(max(len(row) for row in rows), 120, path)
            for node in ast.walk(tree):
                if isinstance(node, ast.FunctionDef):
                    self.assertLessEqual(node.end_lineno - node.lineno + 1, 40, node.name)

    def test_signs_and_words_l14_l17_l27(self):
        for path, text, tree in self.each():
            self.assertTrue(all(sign == "\n" or " " <= sign <= "~" for sign in text), path)
            self.assertIsNone(BARRED_WORDS.search(text), path)
            for node in ast.walk(tree):
                if isinstance(node, ast.Constant) and isinstance(node.value, str):
                    self.assertNotIn("%", node.value)

    def test_statements_and_expressions_l4_l6_l7(self):
        for path, text, tree in self.each():
            for node in ast.walk(tree):
                self.assertNotIsInstance(node, BARRED, path)
                self.assertFalse(isinstance(node, ast.Constant) and isinstance(node.value, (float, complex)), path)
                if isinstance(node, (ast.FunctionDef, ast.ClassDef)):
                    self.assertEqual(node.decorator_list, [])
                if isinstance(node, (ast.For, ast.While)):
                    self.assertEqual(node.orelse, [])

    def test_names_are_known_l8_l12(self):
        for path, text, tree in self.each():
            bound = {node.id for node in ast.walk(tree) if isinstance(node, ast.Name) and
                     isinstance(node.ctx, ast.Store)}
            bound |= {node.arg for node in ast.walk(tree) if isinstance(node, ast.arg)}
            bound |= {node.name for node in ast.walk(tree) if isinstance(node, (ast.FunctionDef, ast.ClassDef))}
            bound |= {node.name for node in ast.walk(tree) if isinstance(node, ast.ExceptHandler) and node.name}
            bound |= {name.name for node in ast.walk(tree) if isinstance(node, ast.ImportFrom) for name in node.names}
            self.assertFalse(bound & BUILT_IN, path)
            self.assertFalse([name for name in bound if name.startswith("_") and name != "__init__"], path)
            for node in ast.walk(tree):
                if isinstance(node, ast.Name):
                    self.assertIn(node.id, bound | BUILT_IN, path)

    def test_no_local_is_called_like_an_import_or_a_class_l15(self):
        for path, text, tree in self.each():
            tops = {name.name for node in tree.body if isinstance(node, ast.ImportFrom) for name in node.names}
            tops |= {node.name for node in tree.body if isinstance(node, ast.ClassDef)}
            names = {node.id for node in ast.walk(tree) if isinstance(node, ast.Name)
                     and isinstance(node.ctx, ast.Store)}
            names |= {node.arg for node in ast.walk(tree) if isinstance(node, ast.arg)}
            self.assertFalse(tops & names, path)

    def test_is_stands_beside_none_and_truths_alone_l20(self):
        for path, text, tree in self.each():
            for node in ast.walk(tree):
                if isinstance(node, ast.Compare):
                    for sign, right in zip(node.ops, node.comparators):
                        if isinstance(sign, (ast.Is, ast.IsNot)):
                            self.assertIsInstance(right, ast.Constant, path)
                            self.assertIn(right.value, (None, True, False), path)
