"""Tests of the form of the package: what of the language rules can be told from the files alone."""

import ast
import builtins
import pathlib
import re
import unittest

PACKAGE = pathlib.Path(__file__).resolve().parent.parent / "fallenbits"
LIBRARY = ("heapq", "math", "itertools", "collections", "__future__")


def gives_text(node):
    """Tell whether an expression is one that __str__ and __repr__ may return (L28)."""
    if isinstance(node, ast.Constant):
        return isinstance(node.value, str)
    if isinstance(node, ast.Call) and isinstance(node.func, ast.Name):
        return node.func.id in ("str", "repr")
    if isinstance(node, ast.Call) and isinstance(node.func, ast.Attribute):
        return node.func.attr == "join" and isinstance(node.func.value, ast.Constant)
    return isinstance(node, ast.JoinedStr)


def gives_length(node):
    """Tell whether an expression is one that __len__ may return (L28)."""
    if isinstance(node, ast.Constant):
        return isinstance(node.value, int)
    return isinstance(node, ast.Call) and isinstance(node.func, ast.Name) and node.func.id == "len"


RETURNS = {"__str__": gives_text, "__repr__": gives_text, "__len__": gives_length}

# The builtins that L8 allows, without its error classes.
BUILTINS = (
    "len range enumerate zip min max sum abs sorted reversed int str bool bytes list tuple dict set frozenset isinstance "
    "ord repr any all divmod pow iter next map getattr hasattr setattr super property staticmethod classmethod").split()
TAKE_LISTS = ("any", "all", "min", "max", "sum", "sorted")


def names_bound(tree):
    """Return the names of all parameters and variables of a file, wherever they are bound."""
    found = {node.arg for node in ast.walk(tree) if isinstance(node, ast.arg)}
    return found | {node.id for node in ast.walk(tree) if isinstance(node, ast.Name) and isinstance(node.ctx, ast.Store)}


def names_imported(tree):
    return {name.name for node in ast.walk(tree) if isinstance(node, ast.ImportFrom) for name in node.names}


def names_read(tree):
    return {node.id for node in ast.walk(tree) if isinstance(node, ast.Name) and isinstance(node.ctx, ast.Load)}


def sources():
    """Return the paths and texts of all files of the package."""
    return [(path, path.read_text(encoding="utf-8")) for path in sorted(PACKAGE.rglob("*.py"))]


class LanguageTest(unittest.TestCase):
    def test_the_folder_holds_files_of_the_program_only(self):
        for path in PACKAGE.rglob("*"):
            if "__pycache__" not in path.parts:
                self.assertTrue(path.is_dir() or path.suffix == ".py", path)
                self.assertEqual(path.name, path.name.lower())
        self.assertTrue((PACKAGE / "__init__.py").is_file())

    def test_characters_and_sizes(self):
        for path, text in sources():
            self.assertTrue(all(sign == "\n" or " " <= sign <= "~" for sign in text), path)
            lines = text.split("\n")
            self.assertLessEqual(len(lines), 400, path)
            for number, line in enumerate(lines, 1):
                self.assertLessEqual(len(line), 120, (path, number))

    def test_functions_are_small(self):
        for path, text in sources():
            for node in ast.walk(ast.parse(text)):
                if isinstance(node, ast.FunctionDef):
                    self.assertLessEqual(node.end_lineno - node.lineno + 1, 40, (path, node.name))

    def test_imports(self):
        for path, text in sources():
            for node in ast.walk(ast.parse(text)):
                self.assertNotIsInstance(node, ast.Import, (path, getattr(node, "lineno", 0)))
                if isinstance(node, ast.ImportFrom):
                    first = node.module.split(".")[0]
                    self.assertTrue(node.level == 0 and first in ("fallenbits", *LIBRARY), (path, node.lineno))
                    for name in node.names:
                        self.assertNotEqual(name.name, "*", (path, node.lineno))

    def test_what_some_methods_return(self):
        for path, text in sources():
            for node in ast.walk(ast.parse(text)):
                if isinstance(node, ast.FunctionDef) and node.name in RETURNS:
                    self.assertIsInstance(node.body[-1], ast.Return, (path, node.lineno))
                    for inner in ast.walk(node):
                        if isinstance(inner, ast.Return):
                            self.assertTrue(RETURNS[node.name](inner.value), (path, inner.lineno))

    def test_each_import_is_used_and_means_one_thing(self):
        for path, text in sources():
            tree = ast.parse(text)
            self.assertEqual(names_imported(tree) - names_read(tree), set(), path)
            classes = {node.name for node in ast.walk(tree) if isinstance(node, ast.ClassDef)}
            self.assertEqual(names_bound(tree) & (names_imported(tree) | classes), set(), path)

    def test_builtins(self):
        for path, text in sources():
            tree = ast.parse(text)
            errors = {name for name in dir(builtins) if isinstance(getattr(builtins, name), type)
                      and issubclass(getattr(builtins, name), Exception)}
            read = {name for name in names_read(tree) if hasattr(builtins, name)} - errors - {"NotImplemented"}
            self.assertEqual(read - set(BUILTINS), set(), path)
            self.assertEqual({name for name in names_bound(tree) if hasattr(builtins, name)}, set(), path)

    def test_some_builtins_take_lists(self):
        for path, text in sources():
            for node in ast.walk(ast.parse(text)):
                if isinstance(node, ast.Call) and isinstance(node.func, ast.Name) and node.func.id in TAKE_LISTS:
                    for given in node.args:
                        self.assertNotIsInstance(given, ast.GeneratorExp, (path, node.lineno))

    def test_is_stands_beside_none_and_truths(self):
        for path, text in sources():
            for node in ast.walk(ast.parse(text)):
                if isinstance(node, ast.Compare):
                    for sign, other in zip(node.ops, node.comparators):
                        if isinstance(sign, (ast.Is, ast.IsNot)):
                            self.assertIsInstance(other, ast.Constant, (path, node.lineno))

    def test_no_function_has_the_name_of_a_generator(self):
        kinds = {}
        for path, text in sources():
            for node in ast.walk(ast.parse(text)):
                if isinstance(node, ast.FunctionDef):
                    yields = any(isinstance(inner, (ast.Yield, ast.YieldFrom)) for inner in ast.walk(node))
                    kinds.setdefault(node.name, set()).add(yields)
        self.assertEqual({name for name, kind in kinds.items() if len(kind) > 1}, set())

    def test_no_method_has_the_name_of_a_property(self):
        kinds = {}
        for path, text in sources():
            for node in ast.walk(ast.parse(text)):
                if isinstance(node, ast.ClassDef):
                    for method in [part for part in node.body if isinstance(part, ast.FunctionDef)]:
                        marks = [getattr(mark, "id", getattr(mark, "attr", "")) for mark in method.decorator_list]
                        kinds.setdefault(method.name, set()).add("property" in marks or "setter" in marks)
        self.assertEqual({name for name, kind in kinds.items() if len(kind) > 1}, set())

    def test_plain_names(self):
        barred = re.compile("_(cold|tuplegetter|outside|record|written_out|member_names)([0-9_]|$)|"
                            "_(wall|pe_|dcw_|enum_|cm_|twin_re_|lay_|law_|stub_|sre|WallAttr)")
        for path, text in sources():
            for node in ast.walk(ast.parse(text)):
                for name in [getattr(node, part, None) for part in ("id", "attr", "name", "arg")]:
                    if isinstance(name, str):
                        self.assertIsNone(barred.match(name), (path, name))
                        self.assertRegex(name, "^_?[A-Za-z][A-Za-z0-9_]*$|^__[a-z]+__$|^_$|^fallenbits[.]")

    def test_attributes_that_are_read_are_assigned(self):
        assigned, read = set(), set()
        for path, text in sources():
            for node in ast.walk(ast.parse(text)):
                if isinstance(node, ast.Attribute) and isinstance(node.value, ast.Name) and node.value.id == "self":
                    (assigned if isinstance(node.ctx, ast.Store) else read).add(node.attr)
                if isinstance(node, ast.FunctionDef):
                    assigned.add(node.name)
        self.assertEqual(read - assigned, set())

    def test_no_floats_and_no_division(self):
        for path, text in sources():
            for node in ast.walk(ast.parse(text)):
                self.assertFalse(isinstance(node, ast.Constant) and isinstance(node.value, float), path)
                self.assertNotIsInstance(node, ast.Div, path)
                self.assertNotIsInstance(node, (ast.Global, ast.AsyncFunctionDef), path)


if __name__ == "__main__":
    unittest.main()
