"""Tests of the interface as a whole: its names, where they are defined, and points 1, 2 and 4 over all stages."""

import importlib
import inspect
import random
import unittest

from fallenbits import errors
from fallenbits.barred import is_barred, is_table
from fallenbits.closed import is_closed, shows
from fallenbits.judge import judge
from fallenbits.looks import look_fault
from fallenbits.rolling import headers_first, rolling
from fallenbits.stores import Store
from fallenbits.texts import read_driver, read_store, read_story, show_driver, show_store, show_story
from fallenbits.worths import worths
from tests.runs import some_driver, some_store
from tests.samples import texts_of

FUNCTIONS = {
    "boxes": "box walk_box in_box box_size torn", "writes": "is_write end write_box single_writes all_writes",
    "stories": "begin moves after follow", "judge": "judge", "closed": "is_closed shows", "worths": "worths",
    "barred": "is_table is_barred", "prices": "prices_of enough", "thin": "thin is_steady",
    "looks": "seen moments look_fault shows_look", "orders": "forced order_for", "fields": "assign",
    "sides": "side_by_side together", "rolling": "live content move headers_first rolling", "keeper": "kept",
    "texts": "show_store read_store show_driver read_driver show_story read_story"}
PROPERTIES = {
    "Pattern": "sizes standing", "Device": "pattern ended cuts erases armed", "Block": "text", "Store": "sizes states",
    "Field": "bits states start", "Held": "content reads sure spare", "Keeper": "names record live rolls"}
METHODS = {
    ("patterns", "Pattern"): "fallen erased is_pattern full __le__ __lt__ __ge__ __gt__ __and__ __or__ __xor__ __eq__ __len__ "
                             "__bool__ __getitem__ __contains__ __str__",
    ("devices", "Device"): "do arm tried set_text stood block",
    ("devices", "Block"): "__getitem__ __setitem__ put change erase __len__",
    ("stores", "Store"): "read targets patterns parted renamed rules changes __eq__ __len__ __contains__",
    ("drivers", "Driver"): "write_for rows __len__", ("hands", "Hand"): "__call__ wake",
    ("worths", "Worths"): "__getitem__ rows sets survives best most",
    ("prices", "Price"): "__getitem__ __contains__ __len__ patterns rows shows_rows __eq__ __le__ __lt__",
    ("prices", "Limited"): "", ("prices", "Same"): "rank", ("prices", "Plain"): "",
    ("fields", "Field"): "changes targets state room left way image as_store on __eq__ __str__",
    ("fields", "Mark"): "", ("fields", "Choice"): "", ("fields", "Toggle"): "", ("fields", "Joint"): "", ("fields", "Count"): "",
    ("fields", "Once"): "", ("fields", "Held"): "__call__",
    ("keeper", "Keeper"): "begun __getitem__ __setitem__ __contains__ __len__ room put change told order",
    ("desk", "Desk"): "say run"}
DEFAULTS = {
    ("writes", "single_writes"): {"erases": True}, ("writes", "all_writes"): {"erases": True}, ("judge", "judge"): {"changes": None},
    ("worths", "worths"): {"erases": True}, ("barred", "is_table"): {"erases": True}, ("barred", "is_barred"): {"erases": True},
    ("prices", "prices_of"): {"erases": True}, ("prices", "enough"): {"erases": True}, ("prices", "Limited"): {"erases": True},
    ("prices", "Same"): {"erases": True}, ("prices", "Plain"): {"erases": True}}
ERRORS = ("NoPattern Unlike NoBit NoWrite Rise NotInBox Cut NoStore NoDriver NoState NoEvent NoOrder TooMany NoField NoRoom Stranded "
          "Foreign NoText NoRow").split()


def part_of(file, name):
    return getattr(importlib.import_module("fallenbits." + file), name)


class InterfaceTest(unittest.TestCase):
    def test_functions_are_defined_in_their_files(self):
        for file, names in FUNCTIONS.items():
            for name in names.split():
                found = part_of(file, name)
                self.assertTrue(inspect.isfunction(found), name)
                self.assertEqual((found.__module__, found.__name__), ("fallenbits." + file, name))

    def test_methods_are_defined_in_their_classes(self):
        for (file, name), methods in METHODS.items():
            found = part_of(file, name)
            self.assertTrue(inspect.isclass(found), name)
            self.assertEqual(found.__module__, "fallenbits." + file)
            for method in methods.split():
                self.assertIn(method, vars(found), name)

    def test_properties_are_defined_in_their_classes(self):
        classes = {name: part_of(file, name) for file, name in METHODS}
        for name, properties in PROPERTIES.items():
            for word in properties.split():
                self.assertIsInstance(vars(classes[name])[word], property)

    def test_defaults(self):
        for (file, name), expected in DEFAULTS.items():
            given = inspect.signature(part_of(file, name)).parameters.values()
            self.assertEqual({one.name: one.default for one in given if one.default is not one.empty}, expected)
        given = inspect.signature(part_of("fields", "Field").on).parameters
        self.assertEqual(given["first"].default, 0)

    def test_errors(self):
        for name in ERRORS:
            self.assertEqual(getattr(errors, name).__bases__, (errors.FallenError,))
        self.assertEqual(errors.FallenError.__bases__, (ValueError,))


class WholeTest(unittest.TestCase):
    def stores(self, seed, many):
        dice = random.Random(seed)
        for _ in range(many):
            store = some_store(dice, dice.choice([(2,), (3,), (1, 1), (2, 1), (2, 2)]), ("a", "b", "c"), dice.choice([0, 0.1]), 3)
            yield dice, store

    def test_what_is_told_is_shown(self):
        for dice, store in self.stores(1, 40):
            for erases in (True, False):
                found = worths(store, erases)
                self.assertTrue(is_table(store, found.rows(), erases) and is_barred(store, found.sets(), erases))
                best = found.best()
                for x in texts_of(store.sizes):
                    for changes in (0, 1, 2, None):
                        kind, told = judge(store, best, x, changes)
                        self.assertEqual(kind == "closed", found.survives(x, "ever" if changes is None else changes))
                        if kind == "closed":
                            self.assertTrue(is_closed(store, best, x, changes, told))
                        else:
                            self.assertTrue(shows(store, best, x, changes, kind, told))

    def test_no_driver_beats_the_worth(self):
        for dice, store in self.stores(2, 60):
            found = worths(store)
            for driver in [some_driver(dice, store, 12, 0.1) for _ in range(3)]:
                for x in texts_of(store.sizes):
                    for changes in (1, 2, None):
                        if judge(store, driver, x, changes)[0] == "closed":
                            self.assertTrue(found.survives(x, "ever" if changes is None else changes))

    def test_the_same_answer_again_also_of_what_is_read_again(self):
        for dice, store in self.stores(3, 30):
            driver = some_driver(dice, store, 6)
            again = read_store(show_store(store))
            same = read_driver(again, show_driver(driver))
            self.assertEqual([worths(store)[x] for x in store.patterns()], [worths(again)[x] for x in again.patterns()])
            for x in texts_of(store.sizes):
                told = judge(store, driver, x)
                self.assertEqual(judge(again, same, x), told)
                self.assertEqual(judge(store, driver, x), told)
                if told[0] != "closed":
                    self.assertEqual(read_story(show_story(told[1])), told[1])

    def test_two_blocks_keep_a_record_for_ever(self):
        both, driver = rolling(Store([1], [("1", "a"), ("0", "b")], [("a", "b"), ("b", "a")]))
        start = "101.111"
        self.assertEqual((judge(both, driver, start)[0], worths(both)[start]), ("closed", "ever"))
        self.assertIsNone(look_fault(both, driver, headers_first(start), start, None))


if __name__ == "__main__":
    unittest.main()
