"""Tests of fallenbits.stores: points 11 to 14 and 2."""

import itertools
import unittest

from fallenbits.errors import NoOrder, NoPattern, NoStore, Unlike
from fallenbits.stores import Store
from tests.samples import (
    NO_LISTS, NO_NUMBERS, NO_TEXTS, NO_TUPLES, ODD_THINGS, bits_of, dotted, shapes, sizes_of, texts_of,
)

SIXTEEN = [(one, other) for one in "abcde" for other in "abcde" if one != other][:16]
NO_NAMES = NO_TEXTS + [
    "", "A", "1", "1a", "-", "-a", "aB", "a_", "a b", " a", "a ", "a.", "a*", "a\n", "ab\u00e9", "\u00e9", "a\u0661",
    "a" * 13, "a" * 5000, "a/", "{", "`", "a:", "a@", "a[",
]
NAMES = ["a", "z", "a" * 12, "abcdefghijkl", "mnopqrstuvwx", "yz0123456789", "a-", "a--", "a0", "z9-9z", "n-1"]
NO_MASKS = NO_TEXTS + [
    "", "*", "**", "***", "****", "**.*.*", "*.**", "**.", ".**", "**.*x", "x*.*", "**.2", "*1.", "**.**", "***.*",
    "**:*", "**.*\n", " **.*", "..**", "**..", "10.1.", "1\u0661.*",
]


def read_by(rules, x):
    """Return what x reads by the rules, by what the document says of it."""
    for mask, name in rules:
        if all(sign in ("*", bit) for sign, bit in zip(mask, x)):
            return name
    return None


class StoreCase(unittest.TestCase):
    def no_store(self, part, at, sizes, rules, changes):
        with self.assertRaises(NoStore) as caught:
            Store(sizes, rules, changes)
        self.assertEqual((caught.exception.part, caught.exception.at), (part, at))


class LimitsTest(StoreCase):
    def test_all_sizes(self):
        for sizes in shapes(6):
            store = Store(list(sizes), [], [])
            self.assertEqual(store.sizes, sizes)
            self.assertIsInstance(store.sizes, tuple)
            self.assertEqual((store.states, store.rules(), store.changes()), ((), [], []))
            self.assertEqual(list(store.patterns()), texts_of(sizes))

    def test_too_many_bits_or_blocks(self):
        for sizes, at in [([7], 0), ([6, 1], 1), ([3, 4], 1), ([1, 6], 1), ([2, 2, 3], 2), ([5, 1, 1], 2),
                          ([1, 1, 1, 1], 3), ([2, 2, 2, 1], 3), ([7, 7], 0), ([10 ** 59], 0), ([1, 10 ** 59], 1),
                          ([1] * 1500, 3), ([3, 3, 1, 1], 2), ([1, 1, 1, 0], 3)]:
            self.no_store("sizes", at, sizes, [], [])

    def test_wrong_sizes(self):
        for wrong in NO_NUMBERS + [0, -1, -7, -(10 ** 59)]:
            self.no_store("sizes", 0, [wrong], [], [])
            self.no_store("sizes", 0, [wrong, 1, 1], [], [])
            self.no_store("sizes", 1, [1, wrong, 1], [], [])
            self.no_store("sizes", 2, [1, 1, wrong], [], [])
            self.no_store("sizes", 3, [1, 1, 1, wrong], [], [])

    def test_the_first_wrong_size_counts(self):
        for sizes, at in [([0, 7], 0), ([7, 0], 0), ([1, 0, 7], 1), ([1, 6, 0], 1), ([1, 0, 1, 1], 1),
                          ([1, 1, 0, 1], 2), ([1, True, None], 1), ([7, -7, 1], 0), ([-7, 7, 1], 0)]:
            self.no_store("sizes", at, sizes, [], [])

    def test_what_is_no_list(self):
        for thing in NO_LISTS + [(2,), (2, 1), "2", {2: 1}]:
            self.no_store("sizes", None, thing, [], [])
            self.no_store("rules", None, [2], thing, [])
            self.no_store("changes", None, [2], [], thing)
        self.no_store("sizes", None, [], [], [])
        self.no_store("rules", None, [2], (("**", "a"),), [])
        self.no_store("changes", None, [2], [], (("a", "b"),))

    def test_64_rules_and_65(self):
        rules = [("**.*", "n" + str(k)) for k in range(64)]
        store = Store([2, 1], rules, [])
        self.assertEqual(store.rules(), rules)
        self.assertEqual(len(store.states), 64)
        self.no_store("rules", 64, [2, 1], rules + [("**.*", "a")], [])
        self.no_store("rules", 64, [2, 1], rules + [("**.*", "a")] * 1436, [])
        self.no_store("rules", 64, [2, 1], rules + ["x"], [])

    def test_a_wrong_rule_comes_ahead_of_one_too_many(self):
        rules = [("**.*", "a")] * 66
        for at in (0, 30, 63):
            wrong = list(rules)
            wrong[at] = ("**", "a")
            self.no_store("rules", at, [2, 1], wrong, [])
        wrong = list(rules)
        wrong[65] = None
        self.no_store("rules", 64, [2, 1], wrong, [])

    def test_16_changes_and_17(self):
        store = Store([1], [], SIXTEEN)
        self.assertEqual(store.changes(), SIXTEEN)
        self.no_store("changes", 16, [1], [], SIXTEEN + [("x", "y")])
        self.no_store("changes", 16, [1], [], SIXTEEN + [("a", "a")])
        self.no_store("changes", 16, [1], [], SIXTEEN + [("x", "y"), ("x", "y")])
        self.no_store("changes", 16, [1], [], SIXTEEN + [SIXTEEN[0]])

    def test_a_wrong_change_comes_ahead_of_one_too_many(self):
        changes = SIXTEEN + [("x", "y"), ("y", "x")]
        for at in (0, 7, 15):
            wrong = list(changes)
            wrong[at] = ("a", "a")
            self.no_store("changes", at, [1], [], wrong)
        wrong = list(changes)
        wrong[9] = wrong[3]
        self.no_store("changes", 9, [1], [], wrong)
        wrong[17] = None
        self.no_store("changes", 9, [1], [], wrong)


class RulesTest(StoreCase):
    def wrong_rule(self, rule):
        good = [("10.*", "a"), ("0*.1", "b")]
        for at in range(3):
            self.no_store("rules", at, [2, 1], good[:at] + [rule] + good[at:], [])

    def test_wrong_rules(self):
        for rule in NO_TUPLES + [(), ("**.*",), ("**.*", "a", "b"), ["**.*", "a"], "**.* a", ("a", "**.*"),
                                 (("**.*", "a"),), ("**.*", ("a",)), (["**.*"], "a"), {"**.*": "a"}]:
            self.wrong_rule(rule)

    def test_wrong_masks(self):
        for mask in NO_MASKS:
            self.wrong_rule((mask, "a"))

    def test_wrong_names(self):
        for name in NO_NAMES:
            self.wrong_rule(("**.*", name))

    def test_names(self):
        for name in NAMES:
            store = Store([2, 1], [("**.*", name)], [])
            self.assertEqual((store.states, store.read("01.1")), ((name,), name))

    def test_the_first_wrong_rule_counts(self):
        self.no_store("rules", 1, [1], [("*", "a"), ("*", ""), ("x", "a"), None], [])
        self.no_store("rules", 0, [1], ["", None], [])

    def test_masks_of_all_sizes(self):
        for sizes in shapes(3):
            for signs in itertools.product("01*", repeat=sum(sizes)):
                mask = dotted(signs, sizes)
                for other in shapes(3):
                    if other == sizes:
                        self.assertEqual(Store(list(sizes), [(mask, "a")], []).rules(), [(mask, "a")])
                    else:
                        self.no_store("rules", 0, list(other), [(mask, "a")], [])


class ChangesTest(StoreCase):
    def wrong_change(self, change):
        good = [("a", "b"), ("b", "c")]
        for at in range(3):
            self.no_store("changes", at, [1], [("*", "a")], good[:at] + [change] + good[at:])

    def test_wrong_changes(self):
        for change in NO_TUPLES + [(), ("x",), ("x", "y", "z"), ["x", "y"], "xy", ("x", "x"), ("x", ("y",)),
                                   (("x", "y"),), {"x": "y"}]:
            self.wrong_change(change)

    def test_wrong_names(self):
        for name in NO_NAMES:
            self.wrong_change((name, "x"))
            self.wrong_change(("x", name))

    def test_an_equal_earlier_change(self):
        self.no_store("changes", 1, [1], [], [("a", "b"), ("a", "b")])
        self.no_store("changes", 3, [1], [], [("a", "b"), ("b", "a"), ("b", "c"), ("a", "b"), ("b", "a")])
        self.no_store("changes", 2, [1], [], [("a", "b"), ("b", "a"), ("b", "a")])

    def test_names(self):
        for name in NAMES:
            store = Store([1], [], [("q", name), (name, "q")])
            self.assertEqual(store.states, tuple(sorted(["q", name])))
            self.assertEqual(store.targets(name), ["q"])


class PartsTest(StoreCase):
    def test_the_parts_are_checked_in_their_order(self):
        self.no_store("sizes", None, (), (), ())
        self.no_store("sizes", 1, [1, 0], None, None)
        self.no_store("sizes", 0, [7], [None], [None])
        self.no_store("sizes", None, [], [("*", "a")], [("a", "a")])
        self.no_store("rules", None, [1], None, None)
        self.no_store("rules", 1, [1], [("*", "a"), ("*", "A")], None)
        self.no_store("rules", 0, [1], ["x"], [("a", "a")])
        self.no_store("rules", 64, [1], [("*", "a")] * 65, SIXTEEN + [("x", "y")])
        self.no_store("changes", 0, [1], [("*", "a")], [("a", "a")])

    def test_what_was_passed_stays_and_is_copied(self):
        sizes, rules, changes = [2, 1], [("1*.*", "a"), ("**.0", "b")], [("b", "a"), ("a", "b")]
        store = Store(sizes, rules, changes)
        same = Store([2, 1], [("1*.*", "a"), ("**.0", "b")], [("b", "a"), ("a", "b")])
        self.assertEqual((sizes, rules, changes), ([2, 1], store.rules(), store.changes()))
        sizes.append(1)
        rules.insert(0, ("**.*", "c"))
        changes.clear()
        self.assertTrue(store == same)
        self.assertEqual((store.sizes, store.states), ((2, 1), ("a", "b")))
        self.assertEqual(store.rules(), [("1*.*", "a"), ("**.0", "b")])
        self.assertEqual(store.changes(), [("b", "a"), ("a", "b")])
        self.assertEqual([store.read("10.1"), store.read("00.1"), store.targets("a")], ["a", None, ["b"]])

    def test_each_list_is_new(self):
        store = Store([1], [("1", "a"), ("0", "b")], [("a", "b"), ("a", "c")])
        for act in (store.rules, store.changes, lambda: store.targets("a")):
            found = act()
            before = list(found)
            found.clear()
            found.append(("*", "z"))
            self.assertEqual(act(), before)
        self.assertEqual([store.read("1"), store.states, len(store)], ["a", ("a", "b", "c"), 2])


class ReadingTest(unittest.TestCase):
    RULES = [("1*.0", "one"), ("*1.*", "two"), ("**.0", "one"), ("11.1", "never"), ("00.*", "three")]

    def test_the_first_rule_that_matches(self):
        store = Store([2, 1], self.RULES, [])
        self.assertEqual([store.read(x) for x in texts_of((2, 1))],
                         ["one", "three", "two", "two", "one", None, "one", "two"])

    def test_all_orders_of_rules(self):
        for rules in itertools.permutations(self.RULES):
            store = Store([2, 1], list(rules), [])
            for x in texts_of((2, 1)):
                self.assertEqual(store.read(x), read_by(rules, x))

    def test_all_masks(self):
        for sizes in [(3,), (2, 1), (1, 1, 1)]:
            for signs in itertools.product("01*", repeat=3):
                rules = [(dotted(signs, sizes), "a")]
                store = Store(list(sizes), rules, [])
                for x in texts_of(sizes):
                    self.assertEqual(store.read(x), read_by(rules, x))

    def test_nothing_is_read(self):
        store = Store([2], [("11", "a")], [])
        self.assertEqual([store.read(x) for x in texts_of((2,))], [None, None, None, "a"])
        self.assertIsNone(Store([6], [], []).read("111111"))

    def test_states(self):
        store = Store([1], [("1", "m"), ("0", "b"), ("*", "m")], [("z", "a"), ("b", "z"), ("a", "m")])
        self.assertEqual(store.states, ("a", "b", "m", "z"))
        self.assertIsInstance(store.states, tuple)
        store = Store([1], [("*", "a"), ("*", "a-"), ("*", "a0"), ("*", "ab"), ("*", "b")], [("a-b", "aa")])
        self.assertEqual(store.states, ("a", "a-", "a-b", "a0", "aa", "ab", "b"))

    def test_targets(self):
        store = Store([1], [("1", "a")], [("a", "z"), ("b", "a"), ("a", "c"), ("c", "b"), ("a", "b")])
        self.assertEqual([store.targets(name) for name in ("a", "b", "c", "z")], [["b", "c", "z"], ["a"], ["b"], []])
        for name in ["", "y", "A", "*", "a ", "1" * 5000]:
            self.assertEqual(store.targets(name), [])

    def test_patterns_and_len(self):
        for sizes in shapes(6):
            store = Store(list(sizes), [], [])
            self.assertEqual(list(store.patterns()), texts_of(sizes))
            self.assertEqual(list(store.patterns()), texts_of(sizes))
            self.assertEqual(len(store), 2 ** sum(sizes))

    def test_patterns_are_yielded(self):
        walk = Store([1, 1], [], []).patterns()
        self.assertEqual([next(walk), next(walk)], ["0.0", "0.1"])

    def test_in(self):
        for sizes in shapes(3):
            store = Store(list(sizes), [], [])
            for other in shapes(4):
                for x in texts_of(other):
                    self.assertIs(x in store, sizes == other)
        store = Store([2, 1], [("**.*", "a")], [])
        for thing in ODD_THINGS + ["**.*", "10.1 ", "1x.1", "10.", ["10.1"], ("10.1",), {"10.1": 1}, "1" * 121]:
            self.assertIs(thing in store, False)

    def test_no_pattern_and_unlike(self):
        store = Store([2, 1], [("**.*", "a")], [])
        for x, at in [("", 0), ("1.", 2), ("10.x", 3), ("**.*", 0), ("1.1.1.1", 5)] + [(thing, 0) for thing in NO_TEXTS]:
            with self.assertRaises(NoPattern) as caught:
                store.read(x)
            self.assertEqual(caught.exception.at, at)
        for x in ["1", "10", "101", "1.01", "10.1.1", "10.11", "1" * 120]:
            with self.assertRaises(Unlike):
                store.read(x)

    def test_the_same_answer_again(self):
        store = Store([2, 1], self.RULES, [("one", "two")])
        for _ in range(3):
            self.assertEqual((store.read("10.0"), store.targets("one"), store.states), (
                "one", ["two"], ("never", "one", "three", "two")))


class ComparingTest(unittest.TestCase):
    def test_stores_with_other_rules_that_read_alike(self):
        one = Store([2], [("1*", "a"), ("**", "b")], [("a", "b"), ("b", "a")])
        other = Store([2], [("11", "a"), ("00", "b"), ("10", "a"), ("01", "b"), ("**", "a")], [("b", "a"), ("a", "b")])
        self.assertTrue(one == other and other == one and not one != other)
        self.assertIsNone(one.parted(other))
        self.assertIsNone(other.parted(one))

    def test_stores_that_read_otherwise(self):
        one = Store([2], [("1*", "a"), ("**", "b")], [("a", "b")])
        for rules, first in [([("1*", "a"), ("01", "b")], "00"), ([("1*", "a"), ("01", "c"), ("**", "b")], "01"),
                             ([("11", "a"), ("**", "b")], "10"), ([("10", "a"), ("11", "b"), ("**", "b")], "11"),
                             ([], "00"), ([("**", "c")], "00")]:
            other = Store([2], rules, [("a", "b")])
            self.assertEqual((one.parted(other), other.parted(one)), (first, first))
            self.assertFalse(one == other or other == one)
            self.assertTrue(one != other and other != one)

    def test_other_changes(self):
        one = Store([1], [("*", "a")], [("a", "b"), ("b", "a")])
        for changes in [[], [("a", "b")], [("b", "a")], [("a", "b"), ("b", "a"), ("a", "c")], [("a", "b"), ("b", "c")]]:
            other = Store([1], [("*", "a")], changes)
            self.assertFalse(one == other or other == one)
            self.assertIsNone(one.parted(other))
        other = Store([1], [("*", "a")], [("b", "a"), ("a", "b")])
        self.assertTrue(one == other)

    def test_states_that_no_rule_lets_read(self):
        one = Store([1], [("*", "a")], [("a", "b")])
        other = Store([1], [("*", "a"), ("1", "c")], [("a", "b")])
        self.assertTrue(one == other)
        self.assertNotEqual(one.states, other.states)

    def test_other_sizes(self):
        for sizes in shapes(4):
            for other in shapes(4):
                one, two = Store(list(sizes), [], []), Store(list(other), [], [])
                self.assertIs(one == two, sizes == other)
                if sizes != other:
                    with self.assertRaises(Unlike):
                        one.parted(two)
                else:
                    self.assertIsNone(one.parted(two))

    def test_other_values(self):
        store = Store([1], [("1", "a")], [("a", "b")])
        for thing in ODD_THINGS + [[[1], [("1", "a")], [("a", "b")]], ([1], [("1", "a")], [("a", "b")])]:
            self.assertIs(store == thing, False)
            self.assertIs(store != thing, True)
            self.assertIs(thing == store, False)
        self.assertTrue(store == store)

    def test_nothing_and_a_name_differ(self):
        one = Store([1], [("1", "a")], [])
        other = Store([1], [("*", "a")], [])
        self.assertEqual((one.parted(other), other.parted(one)), ("0", "0"))


def orders_of(sizes):
    """Return all orders of the bits within their blocks, as tuples."""
    parts, first = [], 0
    for size in sizes:
        parts.append(list(itertools.permutations(range(first, first + size))))
        first += size
    return [tuple(itertools.chain(*chosen)) for chosen in itertools.product(*parts)]


def moved(text, order):
    """Return the pattern whose bit order[p] is the bit p of text."""
    bits = [None] * len(order)
    for p, bit in enumerate(bits_of(text)):
        bits[order[p]] = bit
    return dotted(bits, sizes_of(text))


class RenamedTest(unittest.TestCase):
    def example(self, sizes):
        many = sum(sizes)
        rules = [(dotted("1" + "*" * (many - 1), sizes), "a"), (dotted("*" * (many - 1) + "0", sizes), "b"),
                 (dotted("01" * many, sizes), "c"), (dotted("0" * many, sizes), "d")]
        return Store(list(sizes), [(mask[:many + len(sizes) - 1], name) for mask, name in rules], [("a", "b"), ("b", "d")])

    def test_all_orders(self):
        for sizes in [(1,), (3,), (4,), (2, 2), (3, 1), (1, 3), (1, 2, 2), (2, 2, 2), (1, 1, 1)]:
            store = self.example(sizes)
            for order in orders_of(sizes):
                other = store.renamed(order)
                self.assertEqual(other.sizes, sizes)
                for x in texts_of(sizes):
                    self.assertEqual(other.read(moved(x, order)), store.read(x))
                self.assertEqual(other.changes(), store.changes())

    def test_there_and_back(self):
        for sizes in [(3,), (2, 2), (1, 3, 2)]:
            store = self.example(sizes)
            for order in orders_of(sizes):
                back = tuple(order.index(p) for p in range(len(order)))
                self.assertTrue(store.renamed(order).renamed(back) == store)

    def test_a_ring_of_three_bits(self):
        store = Store([1, 3], [("*.100", "a"), ("*.010", "b"), ("*.001", "c")], [("a", "c")])
        other = store.renamed((0, 2, 3, 1))
        self.assertEqual([other.read(x) for x in ("0.010", "0.001", "0.100")], ["a", "b", "c"])
        self.assertEqual([other.changes(), other.states], [[("a", "c")], ("a", "b", "c")])
        self.assertEqual([store.read("0.100"), store.read("1.001")], ["a", "c"])

    def test_the_old_store_stays(self):
        store = self.example((3,))
        before = (store.rules(), store.changes(), [store.read(x) for x in texts_of((3,))])
        store.renamed((2, 0, 1))
        self.assertEqual((store.rules(), store.changes(), [store.read(x) for x in texts_of((3,))]), before)
        self.assertTrue(store.renamed((2, 0, 1)) == store.renamed((2, 0, 1)))

    def test_no_order_across_blocks(self):
        store = Store([2, 1, 2], [], [])
        for order in itertools.permutations(range(5)):
            if order in orders_of((2, 1, 2)):
                store.renamed(order)
            else:
                with self.assertRaises(NoOrder):
                    store.renamed(order)

    def test_no_order(self):
        store = Store([2, 1], [("1*.*", "a")], [])
        for thing in ODD_THINGS + [
                [0, 1, 2], "012", {0: 0, 1: 1, 2: 2}, (0, 1), (0, 1, 2, 3), (0, 1, 2, 2), (0, 0, 2), (1, 1, 2), (0, 1, 3),
                (0, 1, 1), (0, 1, -1), (-3, -2, -1), (-2, 1, 2), (1, 2, 3), (False, True, 2), (0, True, 2), (False, 1, 2),
                (True, 0, 2), (1, False, 2), (0, 1, None), ("0", "1", "2"), (0, 1, "2"), ((0,), 1, 2), ([0], 1, 2),
                ((0, 1, 2),), (0, 1, 10 ** 59), (0, 1, {}), tuple(range(1500))]:
            with self.assertRaises(NoOrder):
                store.renamed(thing)
        with self.assertRaises(NoOrder):
            Store([1], [], []).renamed((False,))
        with self.assertRaises(NoOrder):
            Store([1], [], []).renamed(())


if __name__ == "__main__":
    unittest.main()
