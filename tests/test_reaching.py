"""Tests that no property and no operator reaches, by the names of what it calls, anything that changes something (L5, L28)."""

import pathlib
import unittest

from tests.reaching import Package

FOLDER = pathlib.Path(__file__).resolve().parent.parent / "fallenbits"

# A property that adds two numbers by a method of its own.
SUM = """
class Sum:
    def __init__(self, one):
        self._one = one

    @property
    def more(self):
        return self._added(1)

    def _added(self, other):
        return self._one + other
"""
SHELF = """
class Shelf:
    def __init__(self):
        self._rows = []

    def NAME(self, row):
        self._rows.append(row)
"""
OPERATOR = """
class Box:
    def __init__(self, rows):
        self._rows = rows

    def __getitem__(self, at):
        ROW
"""


def faults_of(*texts):
    return Package([(f"file{number}.py", text) for number, text in enumerate(texts)]).faults()


def faults_in_operator(row):
    return faults_of(OPERATOR.replace("ROW", row))


class ReachingTest(unittest.TestCase):
    def test_nothing_in_the_package_changes_by_a_property_or_an_operator(self):
        files = [(path.name, path.read_text(encoding="utf-8")) for path in sorted(FOLDER.rglob("*.py"))]
        package = Package(files)
        self.assertEqual(package.faults(), [])
        names = [str(root) for root in package.roots()]
        for name in ("fields.py: Held.sure", "fields.py: Held.spare", "fields.py: Held.reads", "keeper.py: Keeper.record",
                     "keeper.py: Keeper.live", "keeper.py: Keeper.__getitem__", "patterns.py: Pattern.__and__",
                     "stores.py: Store.__eq__", "worths.py: Worths.__getitem__", "prices.py: Price.__lt__"):
            self.assertIn(name, names)
        self.assertNotIn("keeper.py: Keeper.__setitem__", names)
        changing = [str(part) for part in package.parts if package.changed_by(part)]
        for name in ("devices.py: Device.do", "desk.py: Desk._keep", "keeper.py: Keeper._roll", "plays.py: Play.name_of"):
            self.assertIn(name, changing)

    def test_a_method_of_another_class_counts_by_its_name(self):
        self.assertEqual(faults_of(SUM, SHELF.replace("NAME", "add_row")), [])
        found = faults_of(SUM, SHELF.replace("NAME", "_added"))
        self.assertEqual(found, ["file0.py: Sum.more, row 7: by more > _added to file1.py: Shelf._added, rows [7]"])

    def test_what_such_a_method_calls_counts_too(self):
        shelf = SHELF.replace("NAME", "_keep")
        desk = "class Desk:\n    def _added(self, row):\n        self._keep(row)\n"
        self.assertEqual(len(faults_of(SUM, shelf, desk)), 1)
        self.assertEqual(faults_of(SUM, shelf, desk.replace("_added", "_add_row")), [])
        helper = "def told(rows):\n    rows[0] = 1\n    return rows\n"
        self.assertEqual(len(faults_of(SUM.replace("self._one + other", "told([self._one])"), helper)), 1)

    def test_what_is_made_by_a_property_counts(self):
        other = "class Made:\n    def __init__(self, rows):\n        self._rows = rows\n        ROW\n"
        made = SUM.replace("self._added(1)", "Made(self._one)")
        self.assertEqual(faults_of(made, other.replace("ROW", "self._many = 0")), [])
        self.assertEqual(len(faults_of(made, other.replace("ROW", "rows.append(1)"))), 1)
        named = "class Made(Base):\n    pass\n"
        base = "class Base:\n    def __init__(self, rows):\n        rows.clear()\n"
        self.assertEqual(len(faults_of(made, base, named)), 1)

    def test_changes(self):
        for row in ("self._at = at", "self._rows[at] = 1", "del self._rows[at]", "self._rows.append(at)", "self._at += 1",
                    "rows = self._rows; rows.append(at)", "at.add(1)", "for self._at in at: pass", "at(1)", "self._rows[at](1)",
                    "self._rows.fly(at)", "rows = self._rows; rows += at", "setattr(self, 'at', 1)", "self._rows.pop()",
                    "return sorted([1], key=at)", "rows = []; rows = at; rows.append(1)"):
            self.assertEqual(len(faults_in_operator(row)), 1, row)

    def test_what_is_created_may_be_changed(self):
        for row in ("return self._rows[at]", "rows = []; rows.append(at); return rows", "rows = list(at); rows[0] = 1",
                    "rows = {}; rows[at] = 1; del rows[at]", "rows = at[:]; rows.append(1)", "many = 0; many += 1",
                    "rows = [0] * 3; rows[0] = at", "return self._rows.index(at)", "rows = self._rows.copy(); rows.pop()"):
            self.assertEqual(faults_in_operator(row), [], row)

    def test_what_may_change_something(self):
        for name in ("__setitem__", "__call__", "__init__", "__iadd__", "put"):
            text = f"class Box:\n    def {name}(self, at):\n        self._at = at\n"
            self.assertEqual(faults_of(text), [], name)
        for name in ("__eq__", "__add__", "__radd__", "__invert__", "__contains__", "__str__", "__len__"):
            text = f"class Box:\n    def {name}(self, at):\n        self._at = at\n"
            self.assertEqual(len(faults_of(text)), 1, name)
        held = "class Box:\n    @property\n    def at(self):\n        return self._at\n\n"
        held = held + "    @at.setter\n    def at(self, value):\n        self._at = value\n"
        self.assertEqual(faults_of(held), [])


if __name__ == "__main__":
    unittest.main()
