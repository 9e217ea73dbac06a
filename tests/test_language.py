"""What can be seen of the language rules in the files: sizes, characters, imports, names, builtins."""

import ast
import pathlib
import re
import unittest

PACKAGE = pathlib.Path(__file__).resolve().parent.parent / "lockerwall"
FILES = sorted(path for path in PACKAGE.rglob("*") if "__pycache__" not in path.parts)
LIBRARY = {("heapq", "heappush"), ("heapq", "heappop"), ("itertools", "combinations")}
BUILTINS = {"len", "range", "enumerate", "zip", "min", "max", "sum", "abs", "sorted", "reversed", "int", "str", "bool",
            "list", "tuple", "dict", "set", "isinstance", "any", "all", "ValueError", "super", "property"}
BARRED = r"\b(type|typing|enum|Enum|Flag|Protocol|ABC|open|input|law|mro|elements|global|eval|exec|_wall\w*)\b"


class LanguageTest(unittest.TestCase):
    def test_only_python_files(self):
        for path in FILES:
            self.assertTrue(path.is_dir() or re.fullmatch(r"[a-z_]+\.py", path.name), path)

    def test_sizes_and_characters(self):
        for path in FILES:
            text = path.read_text(encoding="ascii")
            lines = text.split("\n")
            self.assertLess(len(lines), 400, path)
            self.assertLessEqual(max(map(len, lines)), 120, path)
            self.assertRegex(text, r"\A[\n -~]*\Z")
            self.assertEqual(re.findall(BARRED, text), [], path)
            self.assertNotIn("%", text, path)

    def test_functions(self):
        for path in FILES:
            for node in ast.walk(ast.parse(path.read_text())):
                if isinstance(node, ast.FunctionDef):
                    self.assertLessEqual(node.end_lineno - node.lineno + 1, 40, (path, node.name))
                    for decorator in node.decorator_list:
                        self.assertIn(ast.unparse(decorator), ("property", node.name + ".setter"))
                    self.assertIsNotNone(ast.get_docstring(node) or node.name.startswith("__"), (path, node.name))

    def test_imports(self):
        for path in FILES:
            for node in ast.walk(ast.parse(path.read_text())):
                self.assertNotIsInstance(node, ast.Import)
                if isinstance(node, ast.ImportFrom) and not node.module.startswith("lockerwall."):
                    for name in node.names:
                        self.assertIn((node.module, name.name), LIBRARY)

    def test_names_are_bound_once_and_builtins_are_allowed(self):
        for path in FILES:
            tree = ast.parse(path.read_text())
            bound = []
            for node in tree.body:
                if isinstance(node, ast.ImportFrom):
                    bound += [name.name for name in node.names]
                elif isinstance(node, (ast.FunctionDef, ast.ClassDef)):
                    bound.append(node.name)
                elif isinstance(node, ast.Assign):
                    bound += [target.id for target in node.targets]
                else:
                    self.assertIsInstance(node, ast.Expr)
            self.assertEqual(len(bound), len(set(bound)), path)
            local = {node.arg for node in ast.walk(tree) if isinstance(node, ast.arg)}
            local |= {node.id for node in ast.walk(tree) if isinstance(node, ast.Name)
                      and isinstance(node.ctx, ast.Store)}
            read = {node.id for node in ast.walk(tree) if isinstance(node, ast.Name)}
            self.assertLessEqual(read - local - set(bound), BUILTINS, path)
            self.assertEqual(local & BUILTINS, set(), path)
