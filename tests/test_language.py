"""The package keeps to its small part of the language; the rules' numbers stand at the tests."""

import ast
import re
import unittest
from pathlib import Path

PACKAGE = Path(__file__).resolve().parent.parent / "drawnword"
FILES = sorted(PACKAGE.glob("**/*.py"))
BARRED = (ast.GeneratorExp, ast.Yield, ast.YieldFrom, ast.With, ast.Global, ast.Nonlocal, ast.NamedExpr, ast.Match,
          ast.AsyncFunctionDef, ast.Await, ast.Div, ast.MatMult)
BUILT_IN = set("""len range enumerate zip min max sum abs sorted reversed int str bool bytes list tuple dict set
    isinstance ord repr any all divmod ValueError KeyError IndexError LookupError ZeroDivisionError""".split())
METHODS = set("""append clear copy count endswith extend find get index insert isalnum isalpha isdigit islower isspace
    isupper items join keys ljust lower lstrip partition pop remove replace reverse rfind rjust rpartition rsplit rstrip
    setdefault split splitlines startswith strip update upper values zfill bit_length add discard""".split())
BARRED_WORDS = re.compile(r"\b(type|typing|enum|Enum|Flag|Generic|Protocol|ABC|namedtuple|NamedTuple|TypedDict)\b"
                          r"|dataclass|overload|contextmanager")


class Language(unittest.TestCase):

    def each(self):
        self.assertTrue(FILES)
        for path in FILES:
            text = path.read_text(encoding="utf-8")
            yield path, text, ast.parse(text)

    def test_nothing_else_lies_in_the_package_l1(self):
        others = [path for path in PACKAGE.rglob("*") if "__pycache__" not in path.parts and path not in FILES]
        self.assertEqual(others, [])

    def test_imports_are_the_packages_own_l2_l16(self):
        for path, text, tree in self.each():
            for node in ast.walk(tree):
                self.assertNotIsInstance(node, ast.Import, path)
                if isinstance(node, ast.ImportFrom):
                    self.assertEqual(node.level, 0, path)
                    self.assertTrue(node.module.startswith("drawnword."), path)
                    self.assertIn(node, tree.body)

    def test_sizes_l10(self):
        for path, text, tree in self.each():
            rows = text.split("\n")
            self.assertLessEqual(len(rows), 400, path)
            self.assertLessEqual(max(len(row) for row in rows), 120, path)
            for node in ast.walk(tree):
                if isinstance(node, ast.FunctionDef):
                    self.assertLessEqual(node.end_lineno - node.lineno + 1, 40, node.name)

    def test_signs_and_words_l14_l17_l27(self):
        for path, text, tree in self.each():
            self.assertTrue(all(sign == "\n" or " " <= sign <= "~" for sign in text), path)
            self.assertIsNone(BARRED_WORDS.search(text), path)
            for node in ast.walk(tree):
                if isinstance(node, ast.Constant) and isinstance(node.value, str):
                    self.assertNotIn("%", node.value)

    def test_statements_and_expressions_l4_l6_l7(self):
        for path, text, tree in self.each():
            for node in ast.walk(tree):
                self.assertNotIsInstance(node, BARRED, path)
                self.assertFalse(isinstance(node, ast.Constant) and isinstance(node.value, (float, complex)), path)
                if isinstance(node, (ast.FunctionDef, ast.ClassDef)):
                    self.assertEqual(node.decorator_list, [])
                if isinstance(node, (ast.For, ast.While)):
                    self.assertEqual(node.orelse, [])

    def test_names_are_known_l8_l12(self):
        for path, text, tree in self.each():
            bound = {node.id for node in ast.walk(tree) if isinstance(node, ast.Name) and
                     isinstance(node.ctx, ast.Store)}
            bound |= {node.arg for node in ast.walk(tree) if isinstance(node, ast.arg)}
            bound |= {node.name for node in ast.walk(tree) if isinstance(node, (ast.FunctionDef, ast.ClassDef))}
            bound |= {node.name for node in ast.walk(tree) if isinstance(node, ast.ExceptHandler) and node.name}
            bound |= {name.name for node in ast.walk(tree) if isinstance(node, ast.ImportFrom) for name in node.names}
            self.assertFalse(bound & BUILT_IN, path)
            self.assertFalse([name for name in bound if name.startswith("_") and name != "__init__"], path)
            for node in ast.walk(tree):
                if isinstance(node, ast.Name):
                    self.assertIn(node.id, bound | BUILT_IN, path)

    def test_no_local_is_called_like_an_import_or_a_class_l15(self):
        for path, text, tree in self.each():
            tops = {name.name for node in tree.body if isinstance(node, ast.ImportFrom) for name in node.names}
            tops |= {node.name for node in tree.body if isinstance(node, ast.ClassDef)}
            names = {node.id for node in ast.walk(tree) if isinstance(node, ast.Name)
                     and isinstance(node.ctx, ast.Store)}
            names |= {node.arg for node in ast.walk(tree) if isinstance(node, ast.arg)}
            self.assertFalse(tops & names, path)

    def test_is_stands_beside_none_and_truths_alone_l20(self):
        for path, text, tree in self.each():
            for node in ast.walk(tree):
                if isinstance(node, ast.Compare):
                    for sign, right in zip(node.ops, node.comparators):
                        if isinstance(sign, (ast.Is, ast.IsNot)):
                            self.assertIsInstance(right, ast.Constant, path)
                            self.assertIn(right.value, (None, True, False), path)

    def test_the_top_of_a_file_holds_plain_things_l3(self):
        for path, text, tree in self.each():
            for node in tree.body:
                docstring = isinstance(node, ast.Expr) and isinstance(node.value, ast.Constant) and node is tree.body[0]
                plain = (ast.ImportFrom, ast.FunctionDef, ast.ClassDef, ast.Assign)
                self.assertTrue(docstring or isinstance(node, plain), path)
                if isinstance(node, ast.Assign):
                    self.hold_plain_value(node, tree)

    def hold_plain_value(self, row, tree):
        """Numbers, texts, and lists, tuples and dicts of these and of functions defined above."""
        above = {node.name for node in tree.body if isinstance(node, ast.FunctionDef) and node.lineno < row.lineno}
        for node in ast.walk(row.value):
            self.assertIsInstance(node, (ast.Constant, ast.List, ast.Tuple, ast.Dict, ast.Name, ast.Load))
            if isinstance(node, ast.Name):
                self.assertIn(node.id, above)
            if isinstance(node, (ast.List, ast.Dict)):
                self.assertIs(node, row.value)

    def test_names_of_a_top_are_bound_once_l15(self):
        for path, text, tree in self.each():
            names = []
            for node in tree.body:
                if isinstance(node, ast.ImportFrom):
                    names += [name.asname or name.name for name in node.names]
                elif isinstance(node, ast.Assign):
                    names += [target.id for target in node.targets]
                elif isinstance(node, (ast.FunctionDef, ast.ClassDef)):
                    names.append(node.name)
            self.assertEqual(len(set(names)), len(names), path)

    def test_no_two_files_draw_from_one_another_l16(self):
        draws = {path.stem: {node.module.split(".")[1] for node in tree.body if isinstance(node, ast.ImportFrom)}
                 for path, text, tree in self.each()}
        while draws:
            ends = [name for name in draws if not draws[name]]
            self.assertTrue(ends, draws)
            draws = {name: drawn - set(ends) for name, drawn in draws.items() if name not in ends}

    def test_names_are_drawn_from_the_file_that_defines_them_l16(self):
        tops = {path.stem: {node.name for node in tree.body if isinstance(node, (ast.FunctionDef, ast.ClassDef))}
                | {node.targets[0].id for node in tree.body if isinstance(node, ast.Assign)}
                for path, text, tree in self.each()}
        for path, text, tree in self.each():
            for node in tree.body:
                if isinstance(node, ast.ImportFrom):
                    self.assertTrue({name.name for name in node.names} <= tops[node.module.split(".")[1]], path)

    def test_methods_and_values_l18_l25(self):
        trees = [tree for path, text, tree in self.each()]
        classes = [node for tree in trees for node in tree.body if isinstance(node, ast.ClassDef)]
        own = {part.name for node in classes for part in node.body if isinstance(part, ast.FunctionDef)}
        given = {node.attr for tree in trees for node in ast.walk(tree)
                 if isinstance(node, ast.Attribute) and isinstance(node.ctx, ast.Store)}
        self.assertFalse(own & given)
        for tree in trees:
            called = {id(node.func) for node in ast.walk(tree) if isinstance(node, ast.Call)}
            for node in ast.walk(tree):
                if isinstance(node, ast.Attribute):
                    self.assertIn(node.attr, METHODS | own if id(node) in called else given)

    def test_errors_are_made_on_the_spot_l19(self):
        for path, text, tree in self.each():
            for node in ast.walk(tree):
                self.assertNotIsInstance(node, ast.Try, path)
                if isinstance(node, ast.Raise):
                    self.assertIsInstance(node.exc, ast.Call, path)
                    self.assertIn(node.exc.func.id, ("NotDrawn", "NoMove", "NoText", "NoWord", "NoRow"), path)

    def test_what_is_walked_on_the_spot_is_not_kept_l23(self):
        kept = ("zip", "enumerate", "reversed", "range")
        for path, text, tree in self.each():
            for node in ast.walk(tree):
                if isinstance(node, (ast.Assign, ast.Return)) and isinstance(node.value, ast.Call):
                    self.assertNotIn(getattr(node.value.func, "id", ""), kept, path)
