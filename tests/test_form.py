"""Some of the rules of LANGUAGE.md that a test can see: L1, L2, L10, L14, L21."""

import ast
import pathlib
import unittest

PACKAGE = pathlib.Path(__file__).resolve().parent.parent / "evenbend"
FILES = sorted(PACKAGE.rglob("*.py"))


class FormTest(unittest.TestCase):
    def test_the_package_has_files(self):
        self.assertIn(PACKAGE / "__init__.py", FILES)

    def test_nothing_else_in_the_folder(self):
        for path in PACKAGE.rglob("*"):
            if "__pycache__" not in path.parts:
                self.assertEqual(path.suffix, ".py", path)

    def test_characters_and_lengths(self):
        for path in FILES:
            with self.subTest(path.name):
                text = path.read_bytes().decode("ascii")
                self.assertEqual([sign for sign in text if sign != "\n" and not " " <= sign <= "~"], [])
                lines = text.splitlines()
                self.assertLessEqual(len(lines), 399)
                self.assertLessEqual(max(map(len, lines)), 120)

    def test_functions_have_at_most_forty_lines(self):
        for path in FILES:
            for node in ast.walk(ast.parse(path.read_text())):
                if isinstance(node, ast.FunctionDef):
                    self.assertLessEqual(node.end_lineno - node.lineno + 1, 40, f"{path.name}: {node.name}")

    def test_imports_name_files_of_the_package(self):
        for path in FILES:
            for node in ast.walk(ast.parse(path.read_text())):
                self.assertNotIsInstance(node, ast.Import)
                if isinstance(node, ast.ImportFrom):
                    self.assertEqual(node.level, 0)
                    if node.module not in ("heapq", "math", "itertools", "collections"):
                        self.assertTrue(node.module.startswith("evenbend."), node.module)

    def test_no_floats_and_no_true_division(self):
        for path in FILES:
            for node in ast.walk(ast.parse(path.read_text())):
                self.assertNotIsInstance(node, ast.Div)
                if isinstance(node, ast.Constant):
                    self.assertNotIsInstance(node.value, float)


if __name__ == "__main__":
    unittest.main()
