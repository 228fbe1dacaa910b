"""The form of the package's files, as far as it can be checked line by line and node by node."""

import ast
import pathlib
import re
import unittest

PACKAGE = pathlib.Path(__file__).resolve().parent.parent / "gaugemiss"
FILES = sorted(PACKAGE.glob("*.py"))
DECORATORS = ("property", "staticmethod", "classmethod")
BARRED = (ast.Global, ast.AsyncFunctionDef, ast.AsyncFor, ast.AsyncWith, ast.Await, ast.Import, ast.Set, ast.Div,
          ast.GeneratorExp)


def nodes(path):
    return list(ast.walk(ast.parse(path.read_text(encoding="ascii"))))


def functions():
    """All functions and methods by name. A class stands there with its __init__."""
    found = {}
    for path in FILES:
        for node in nodes(path):
            if isinstance(node, ast.FunctionDef):
                found.setdefault(node.name, []).append(node)
            if isinstance(node, ast.ClassDef):
                found.setdefault(node.name, []).extend(
                    each for each in node.body if isinstance(each, ast.FunctionDef) and each.name == "__init__")
    return found


def is_read(node):
    """Whether this is an operator, or a property that is read: it may neither change nor call what it is handed."""
    if any(ast.unparse(decorator) == "property" for decorator in node.decorator_list):
        return True
    return node.name.startswith("__") and node.name not in ("__init__", "__iter__")


def handed_names(node):
    """The parameters and the local names of a function."""
    inside = list(ast.walk(node))
    stored = {each.id for each in inside if isinstance(each, ast.Name) and isinstance(each.ctx, ast.Store)}
    return stored | {each.arg for each in inside if isinstance(each, ast.arg)}


def held_names():
    """The attributes that objects of the package hold."""
    return {node.attr for path in FILES for node in nodes(path)
            if isinstance(node, ast.Attribute) and isinstance(node.ctx, ast.Store)}


def calls(node, held):
    """Pairs of the name that a function calls and whether it calls there what it is handed or what an object holds."""
    handed = handed_names(node)
    found = []
    for func in [each.func for each in ast.walk(node) if isinstance(each, ast.Call)]:
        if isinstance(func, ast.Name):
            found.append((func.id, func.id in handed))
        elif isinstance(func, ast.Attribute):
            base = func.attr == "__init__"
            found.append((ast.unparse(func.value) if base else func.attr, func.attr in held))
        else:
            found.append((ast.unparse(func), True))
    return found


class Form(unittest.TestCase):
    def test_the_folder_holds_plain_files_only(self):
        self.assertTrue(FILES)
        for path in PACKAGE.iterdir():
            if path.name != "__pycache__":
                self.assertRegex(path.name, r"^[a-z_]+\.py$")

    def test_sizes_and_signs(self):
        for path in FILES:
            text = path.read_text(encoding="ascii")
            self.assertLess(len(text.splitlines()), 400, path.name)
            self.assertLessEqual(max(len(line) for line in text.splitlines()), 120, path.name)
            self.assertIsNone(re.search(r"[^ -~\n]", text), path.name)

    def test_functions_are_short(self):
        for path in FILES:
            for node in nodes(path):
                if isinstance(node, ast.FunctionDef):
                    self.assertLessEqual(node.end_lineno - node.lineno + 1, 40, (path.name, node.name))

    def test_imports_name_files_of_the_package(self):
        for path in FILES:
            for node in nodes(path):
                if isinstance(node, ast.ImportFrom):
                    self.assertEqual(node.level, 0)
                    self.assertRegex(node.module, r"^gaugemiss\.[a-z]+$")
                    self.assertTrue((PACKAGE / (node.module.split(".")[1] + ".py")).exists())

    def test_statements_and_expressions(self):
        for path in FILES:
            for node in nodes(path):
                self.assertNotIsInstance(node, BARRED, (path.name, getattr(node, "lineno", 0)))
                for decorator in getattr(node, "decorator_list", []):
                    self.assertIn(ast.unparse(decorator), (*DECORATORS, f"{node.name}.setter"))
                if isinstance(node, ast.Constant):
                    self.assertNotIsInstance(node.value, (float, complex, bytes))
                    self.assertNotIn("%", str(node.value), (path.name, node.lineno))

    def test_operators_and_properties_call_nothing_that_is_handed_or_held(self):
        bodies, held = functions(), held_names()
        waiting = [(name, node) for name, found in bodies.items() for node in found if is_read(node)]
        self.assertLessEqual({"now", "width", "__and__", "__len__", "__contains__"}, {name for name, _ in waiting})
        seen = set()
        while waiting:
            name, node = waiting.pop()
            if node not in seen:
                seen.add(node)
                for called, wrong in calls(node, held):
                    self.assertFalse(wrong, (name, node.lineno, called))
                    waiting += [(called, other) for other in bodies.get(called, [])]
        self.assertLessEqual({"_union", "_joined", "slack_above"}, {node.name for node in seen})

    def test_which_calls_are_calls_of_what_is_handed_or_held(self):
        rows = (("cls(*xs)", ("cls", True)), ("xs(1)", ("xs", True)), ("xs[0](1)", ("xs[0]", True)),
                ("self.step(1)", ("step", True)), ("self.told(1)", ("told", False)), ("Levels(*xs)", ("Levels", False)),
                ("Levels.of(xs)", ("of", False)), ("Base.__init__(self)", ("Base", False)))
        for text, pair in rows:
            node = ast.parse(f"def made(cls, self, xs):\n    return {text}").body[0]
            self.assertEqual(calls(node, {"step"}), [pair])


if __name__ == "__main__":
    unittest.main()
