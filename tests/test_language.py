"""Some of the limits of the language that the package is written in."""

import ast
import builtins
import unittest

from pathlib import Path

import settledland

FOLDER = Path(settledland.__file__).parent
FILES = sorted(FOLDER.glob("*.py"))

METHODS = (
    "append clear copy count endswith extend find get index insert isalnum isalpha isdigit items join keys pop remove "
    "replace setdefault split startswith strip update values"
).split()


class Language(unittest.TestCase):
    def test_folder_holds_only_python_files(self):
        others = [path.name for path in FOLDER.iterdir() if path not in FILES and path.name != "__pycache__"]
        self.assertEqual(others, [])

    def test_characters(self):
        for path in FILES:
            signs = set(path.read_bytes().decode("latin-1"))
            self.assertEqual([sign for sign in signs if not (" " <= sign <= "~" or sign == "\n")], [], path)

    def test_sizes(self):
        for path in FILES:
            lines = path.read_text().split("\n")
            self.assertLess(len(lines), 400, path)
            self.assertLessEqual(max(map(len, lines)), 120, path)

    def test_sizes_of_functions(self):
        for path in FILES:
            for node in ast.walk(ast.parse(path.read_text())):
                if isinstance(node, ast.FunctionDef):
                    self.assertLessEqual(node.end_lineno - node.lineno + 1, 40, (path, node.name))

    def test_imports(self):
        for path in FILES:
            for node in ast.walk(ast.parse(path.read_text())):
                self.assertNotIsInstance(node, ast.Import, path)
                if isinstance(node, ast.ImportFrom):
                    self.assertEqual(node.level, 0, path)
                    self.assertTrue(node.module.startswith("settledland."), path)
                    self.assertNotIn("*", [name.name for name in node.names], path)

    def test_names(self):
        for path in FILES:
            tree = ast.parse(path.read_text())
            taken = {name.name for node in ast.walk(tree) if isinstance(node, ast.ImportFrom) for name in node.names}
            taken |= {node.name for node in tree.body if isinstance(node, ast.ClassDef)}
            taken |= set(dir(builtins))
            for node in ast.walk(tree):
                if isinstance(node, ast.arg):
                    self.assertNotIn(node.arg, taken, path)
                elif isinstance(node, ast.Name) and isinstance(node.ctx, ast.Store):
                    self.assertNotIn(node.id, taken, path)
            for node in tree.body:
                if isinstance(node, (ast.FunctionDef, ast.ClassDef)):
                    self.assertNotIn(node.name, set(dir(builtins)), path)

    def test_methods_and_attributes(self):
        for path in FILES:
            for node in ast.walk(ast.parse(path.read_text())):
                if isinstance(node, ast.ClassDef):
                    methods = {part.name for part in node.body if isinstance(part, ast.FunctionDef)}
                    attributes = [part for part in ast.walk(node) if isinstance(part, ast.Attribute)]
                    stored = {part.attr for part in attributes if isinstance(part.ctx, ast.Store)}
                    self.assertEqual(methods & stored, set(), path)

    def test_methods_of_builtin_values(self):
        for path in FILES:
            for node in ast.walk(ast.parse(path.read_text())):
                if isinstance(node, ast.Call) and isinstance(node.func, ast.Attribute):
                    own = node.func.attr == "__init__"
                    if not own and any(
                        hasattr(kind, node.func.attr) for kind in (str, list, dict, tuple, set, bytes, int)
                    ):
                        self.assertIn(node.func.attr, METHODS, path)

    def test_strings_and_numbers(self):
        for path in FILES:
            for node in ast.walk(ast.parse(path.read_text())):
                if isinstance(node, ast.Constant):
                    self.assertNotIsInstance(node.value, (float, bytes), path)
                    if isinstance(node.value, str):
                        self.assertNotIn("%", node.value, path)


if __name__ == "__main__":
    unittest.main()
