"""The form of the package's files, as far as it can be checked line by line and node by node."""

import ast
import pathlib
import re
import unittest

PACKAGE = pathlib.Path(__file__).resolve().parent.parent / "gaugemiss"
FILES = sorted(PACKAGE.glob("*.py"))
DECORATORS = ("property", "staticmethod", "classmethod")
BARRED = (ast.Global, ast.AsyncFunctionDef, ast.AsyncFor, ast.AsyncWith, ast.Await, ast.Import, ast.Set, ast.Div,
          ast.GeneratorExp)


def nodes(path):
    return list(ast.walk(ast.parse(path.read_text(encoding="ascii"))))


class Form(unittest.TestCase):
    def test_the_folder_holds_plain_files_only(self):
        self.assertTrue(FILES)
        for path in PACKAGE.iterdir():
            if path.name != "__pycache__":
                self.assertRegex(path.name, r"^[a-z_]+\.py$")

    def test_sizes_and_signs(self):
        for path in FILES:
            text = path.read_text(encoding="ascii")
            self.assertLess(len(text.splitlines()), 400, path.name)
            self.assertLessEqual(max(len(line) for line in text.splitlines()), 120, path.name)
            self.assertIsNone(re.search(r"[^ -~\n]", text), path.name)

    def test_functions_are_short(self):
        for path in FILES:
            for node in nodes(path):
                if isinstance(node, ast.FunctionDef):
                    self.assertLessEqual(node.end_lineno - node.lineno + 1, 40, (path.name, node.name))

    def test_imports_name_files_of_the_package(self):
        for path in FILES:
            for node in nodes(path):
                if isinstance(node, ast.ImportFrom):
                    self.assertEqual(node.level, 0)
                    self.assertRegex(node.module, r"^gaugemiss\.[a-z]+$")
                    self.assertTrue((PACKAGE / (node.module.split(".")[1] + ".py")).exists())

    def test_statements_and_expressions(self):
        for path in FILES:
            for node in nodes(path):
                self.assertNotIsInstance(node, BARRED, (path.name, getattr(node, "lineno", 0)))
                for decorator in getattr(node, "decorator_list", []):
                    self.assertIn(ast.unparse(decorator), (*DECORATORS, f"{node.name}.setter"))
                if isinstance(node, ast.Constant):
                    self.assertNotIsInstance(node.value, (float, complex, bytes))
                    self.assertNotIn("%", str(node.value), (path.name, node.lineno))


if __name__ == "__main__":
    unittest.main()
