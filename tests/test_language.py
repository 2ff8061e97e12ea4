"""Tests of the form of the package: what of the language rules can be told from the files alone."""

import ast
import pathlib
import unittest

PACKAGE = pathlib.Path(__file__).resolve().parent.parent / "fallenbits"
LIBRARY = ("heapq", "math", "itertools", "collections", "__future__")


def gives_text(node):
    """Tell whether an expression is one that __str__ and __repr__ may return (L28)."""
    if isinstance(node, ast.Constant):
        return isinstance(node.value, str)
    if isinstance(node, ast.Call) and isinstance(node.func, ast.Name):
        return node.func.id in ("str", "repr")
    if isinstance(node, ast.Call) and isinstance(node.func, ast.Attribute):
        return node.func.attr == "join" and isinstance(node.func.value, ast.Constant)
    return isinstance(node, ast.JoinedStr)


def gives_length(node):
    """Tell whether an expression is one that __len__ may return (L28)."""
    if isinstance(node, ast.Constant):
        return isinstance(node.value, int)
    return isinstance(node, ast.Call) and isinstance(node.func, ast.Name) and node.func.id == "len"


RETURNS = {"__str__": gives_text, "__repr__": gives_text, "__len__": gives_length}


def sources():
    """Return the paths and texts of all files of the package."""
    return [(path, path.read_text(encoding="utf-8")) for path in sorted(PACKAGE.rglob("*.py"))]


class LanguageTest(unittest.TestCase):
    def test_the_folder_holds_files_of_the_program_only(self):
        for path in PACKAGE.rglob("*"):
            if "__pycache__" not in path.parts:
                self.assertTrue(path.is_dir() or path.suffix == ".py", path)
                self.assertEqual(path.name, path.name.lower())
        self.assertTrue((PACKAGE / "__init__.py").is_file())

    def test_characters_and_sizes(self):
        for path, text in sources():
            self.assertTrue(all(sign == "\n" or " " <= sign <= "~" for sign in text), path)
            lines = text.split("\n")
            self.assertLessEqual(len(lines), 400, path)
            for number, line in enumerate(lines, 1):
                self.assertLessEqual(len(line), 120, (path, number))

    def test_functions_are_small(self):
        for path, text in sources():
            for node in ast.walk(ast.parse(text)):
                if isinstance(node, ast.FunctionDef):
                    self.assertLessEqual(node.end_lineno - node.lineno + 1, 40, (path, node.name))

    def test_imports(self):
        for path, text in sources():
            for node in ast.walk(ast.parse(text)):
                self.assertNotIsInstance(node, ast.Import, (path, getattr(node, "lineno", 0)))
                if isinstance(node, ast.ImportFrom):
                    first = node.module.split(".")[0]
                    self.assertTrue(node.level == 0 and first in ("fallenbits", *LIBRARY), (path, node.lineno))
                    for name in node.names:
                        self.assertNotEqual(name.name, "*", (path, node.lineno))

    def test_what_some_methods_return(self):
        for path, text in sources():
            for node in ast.walk(ast.parse(text)):
                if isinstance(node, ast.FunctionDef) and node.name in RETURNS:
                    self.assertIsInstance(node.body[-1], ast.Return, (path, node.lineno))
                    for inner in ast.walk(node):
                        if isinstance(inner, ast.Return):
                            self.assertTrue(RETURNS[node.name](inner.value), (path, inner.lineno))

    def test_no_floats_and_no_division(self):
        for path, text in sources():
            for node in ast.walk(ast.parse(text)):
                self.assertFalse(isinstance(node, ast.Constant) and isinstance(node.value, float), path)
                self.assertNotIsInstance(node, ast.Div, path)
                self.assertNotIsInstance(node, (ast.Global, ast.AsyncFunctionDef), path)


if __name__ == "__main__":
    unittest.main()
