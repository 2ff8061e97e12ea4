"""Tests of fallenbits.thin: points 37, 38 and 2."""

import itertools
import random
import unittest

from fallenbits.errors import NoPattern, NoWrite, Unlike
from fallenbits.stores import Store
from fallenbits.thin import is_steady, thin
from tests.runs import some_store
from tests.samples import NO_TEXTS, ODD_THINGS, box_of, end_of, erases_of, falls_of, texts_of

STORE = Store([2], [("10", "b"), ("00", "b"), ("**", "a")], [("a", "b")])
TURNED = Store([2], [("10", "b"), ("**", "a")], [("a", "b")])
PAIR = Store([2, 1], [("11.*", "a"), ("*1.*", "b"), ("00.1", "c")], [])
NO_WRITES = ODD_THINGS + [
    ("fall", (2,)), ("fall", (1, 0)), ("fall", (0, 0)), ("fall", (False,)), ("fall", [0]), ["fall", (0,)], ("fall", ()),
    ("fall", (0,), 0), ("erase", 1), ("erase", True), ("erase", (0,)), ("Fall", (0,)), ("fall", 0)]


def is_safe(store, x, write, t):
    """Tell whether a fall is safe by the words of point 38."""
    s, after = store.read(x), end_of(x, write)
    return s is not None and s != t and store.read(after) == t and all(store.read(z) in (s, t) for z in box_of(x, after))


def is_thin_part(store, x, bits, part, t):
    """Tell whether a part of the bits of a fall is a thin one by the words of point 38."""
    if not part or not set(part) <= set(bits) or list(part) != sorted(set(part)):
        return False
    others = [some for many in range(len(part)) for some in itertools.combinations(part, many)]
    return store.read(end_of(x, ("fall", part))) == t and all(
        store.read(end_of(x, ("fall", some)) if some else x) == store.read(x) for some in others)


def steady_by_words(store, x, write):
    """Tell whether a write is steady by the words of point 37."""
    after = end_of(x, write)
    for z in box_of(x, after):
        if store.read(z) != store.read(x):
            if any(store.read(y) != store.read(z) for y in box_of(z, after)):
                return False
    return True


def some_stores(seed, many):
    dice = random.Random(seed)
    for _ in range(many):
        sizes = dice.choice([(2,), (3,), (1, 2), (4,), (2, 2), (1, 1, 1), (5,), (6,)])
        names = dice.choice([("a", "b"), ("a", "b"), ("a", "b", "c")])
        yield some_store(dice, sizes, names, dice.choice([0, 0, 0.1]), 2)


class ThinTest(unittest.TestCase):
    def test_worked_by_hand(self):
        self.assertEqual(thin(STORE, "11", ("fall", (0, 1)), "b"), (1,))
        self.assertIsNone(thin(TURNED, "11", ("fall", (0, 1)), "b"))

    def test_one_bit(self):
        self.assertEqual(thin(STORE, "11", ("fall", (1,)), "b"), (1,))
        self.assertEqual(thin(STORE, "01", ("fall", (1,)), "b"), (1,))
        self.assertIsNone(thin(STORE, "11", ("fall", (0,)), "b"))
        self.assertIsNone(thin(STORE, "10", ("fall", (0,)), "b"))

    def test_all_bits_are_needed(self):
        store = Store([3], [("000", "b"), ("***", "a")], [])
        self.assertEqual(thin(store, "111", ("fall", (0, 1, 2)), "b"), (0, 1, 2))
        self.assertEqual(thin(store, "101", ("fall", (0, 2)), "b"), (0, 2))

    def test_a_part_from_which_no_single_bit_can_be_left_out_need_not_be_thin(self):
        # Without one bit of the three each pair reads a, but the bit 2 alone reads b.
        store = Store([3], [("000", "b"), ("110", "b"), ("***", "a")], [])
        self.assertEqual(thin(store, "111", ("fall", (0, 1, 2)), "b"), (2,))

    def test_falls_that_are_not_safe(self):
        cases = [("11.1", (0,), "a"), ("11.1", (0,), "x"), ("11.1", (0,), ""), ("11.1", (1,), "b"), ("11.1", (0, 1), "c"),
                 ("11.1", (2,), "a"), ("01.1", (1, 2), "c"), ("10.1", (0,), "c"), ("01.1", (1,), "b"), ("11.1", (0, 1, 2), "b")]
        for x, bits, t in cases:
            self.assertIsNone(thin(PAIR, x, ("fall", bits), t), (x, bits, t))
        self.assertEqual(thin(PAIR, "11.1", ("fall", (0,)), "b"), (0,))
        self.assertEqual(thin(PAIR, "11.1", ("fall", (0, 2)), "b"), (0,))
        self.assertEqual(thin(PAIR, "01.1", ("fall", (1,)), "c"), (1,))

    def test_a_target_need_not_be_one_of_the_changes(self):
        self.assertEqual(thin(PAIR, "01.1", ("fall", (1,)), "c"), (1,))

    def test_a_text_that_is_no_state(self):
        for t in ("", "nothing", "None", "A", "*", "x" * 5000):
            self.assertIsNone(thin(STORE, "11", ("fall", (0, 1)), t))

    def test_by_the_words(self):
        told = {None: 0}
        for store in some_stores(51, 150):
            for x in texts_of(store.sizes)[-8:]:
                for write in falls_of(x):
                    for t in ("a", "b", "c"):
                        part = thin(store, x, write, t)
                        if is_safe(store, x, write, t):
                            self.assertIsInstance(part, tuple)
                            self.assertTrue(is_thin_part(store, x, write[1], part, t), (x, write, t, part))
                            # The facts of point 38: there is one, and its fall is steady.
                            self.assertTrue(is_steady(store, x, ("fall", part)))
                            told[len(part)] = told.get(len(part), 0) + 1
                        else:
                            self.assertIsNone(part)
                            told[None] += 1
        self.assertTrue({None, 1, 2} <= set(told), told)

    def test_wide_thin_parts(self):
        for many in range(1, 7):
            store = Store([6], [("0" * many + "*" * (6 - many), "b"), ("******", "a")], [])
            self.assertEqual(thin(store, "111111", ("fall", tuple(range(6))), "b"), tuple(range(many)))


class SteadyTest(unittest.TestCase):
    def test_worked_by_hand(self):
        self.assertIs(is_steady(STORE, "11", ("fall", (0, 1))), True)
        self.assertIs(is_steady(TURNED, "11", ("fall", (0, 1))), False)

    def test_nothing_is_a_reading_of_its_own(self):
        store = Store([2], [("11", "a"), ("00", "b")], [])
        self.assertIs(is_steady(store, "11", ("fall", (0,))), True)
        self.assertIs(is_steady(store, "11", ("fall", (0, 1))), False)
        self.assertIs(is_steady(store, "01", ("fall", (1,))), True)
        self.assertIs(is_steady(store, "01", ("erase", 0)), True)
        self.assertIs(is_steady(store, "00", ("erase", 0)), False)
        nothing = Store([2], [("00", "b")], [])
        self.assertIs(is_steady(nothing, "11", ("fall", (0, 1))), True)
        self.assertIs(is_steady(Store([2], [], []), "00", ("erase", 0)), True)

    def test_two_readings_and_the_first_never_again(self):
        # 10 reads b and between it and 00 all do; so do 01 and 00.
        store = Store([2], [("11", "a"), ("**", "b")], [])
        self.assertIs(is_steady(store, "11", ("fall", (0, 1))), True)
        self.assertIs(is_steady(store, "00", ("erase", 0)), True)
        three = Store([2], [("11", "a"), ("00", "c"), ("**", "b")], [])
        self.assertIs(is_steady(three, "11", ("fall", (0, 1))), False)
        self.assertIs(is_steady(three, "11", ("fall", (0,))), True)

    def test_an_erase(self):
        back = Store([2], [("00", "a"), ("01", "b"), ("10", "a"), ("11", "b")], [])
        self.assertIs(is_steady(back, "00", ("erase", 0)), True)
        again = Store([2], [("00", "a"), ("01", "b"), ("10", "a"), ("11", "a")], [])
        self.assertIs(is_steady(again, "00", ("erase", 0)), False)
        self.assertIs(is_steady(again, "01", ("erase", 0)), True)

    def test_by_the_words(self):
        told = {True: 0, False: 0}
        for store in some_stores(52, 120):
            for x in texts_of(store.sizes)[-6:] + texts_of(store.sizes)[:6]:
                for write in falls_of(x) + erases_of(x):
                    right = steady_by_words(store, x, write)
                    self.assertIs(is_steady(store, x, write), right)
                    told[right] += 1
        self.assertGreater(min(told.values()), 100)


class ErrorsTest(unittest.TestCase):
    def test_no_pattern_then_unlike(self):
        for write in (("fall", (0,)), ("erase", 0), None):
            for x, at in [("", 0), ("1.", 2), ("1x", 1), ("1.1.1.1", 5), ("**", 0)] + [(x, 0) for x in NO_TEXTS]:
                for call in (lambda: thin(STORE, x, write, "b"), lambda: is_steady(STORE, x, write)):
                    with self.assertRaises(NoPattern) as caught:
                        call()
                    self.assertEqual(caught.exception.at, at)
            for x in ("1", "111", "1.1", "11.1"):
                for call in (lambda: thin(STORE, x, write, "b"), lambda: is_steady(STORE, x, write)):
                    with self.assertRaises(Unlike):
                        call()

    def test_no_write(self):
        for x in texts_of((2,)):
            for write in NO_WRITES + [("fall", (bit,)) for bit in (0, 1) if x[bit] == "0"]:
                for call in (lambda: thin(STORE, x, write, "b"), lambda: thin(STORE, x, write, "no state"),
                             lambda: is_steady(STORE, x, write)):
                    with self.assertRaises(NoWrite):
                        call()
        for call in (lambda: thin(STORE, "11", ("erase", 0), "b"), lambda: is_steady(STORE, "11", ("erase", 0))):
            with self.assertRaises(NoWrite):
                call()

    def test_an_erase_in_thin(self):
        for x in ("00", "01", "10"):
            for t in ("a", "b", "", "no state"):
                with self.assertRaises(NoWrite):
                    thin(STORE, x, ("erase", 0), t)
            self.assertIsInstance(is_steady(STORE, x, ("erase", 0)), bool)

    def test_the_same_answer_again(self):
        for _ in range(3):
            self.assertEqual(thin(STORE, "11", ("fall", (0, 1)), "b"), (1,))
            self.assertIs(is_steady(STORE, "11", ("fall", (0, 1))), True)


if __name__ == "__main__":
    unittest.main()
