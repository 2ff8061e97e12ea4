"""Tests of fallenbits.rolling: points 46 to 49 and 2."""

import random
import unittest

from fallenbits.errors import Foreign, NoPattern, NoStore, Unlike
from fallenbits.fields import Toggle
from fallenbits.judge import judge
from fallenbits.looks import look_fault, seen
from fallenbits.rolling import content, headers_first, live, move, rolling
from fallenbits.stores import Store
from fallenbits.worths import worths
from tests.blocks import can_begin, content_by_words, contents, live_by_words, move_by_words, rolling_patterns
from tests.samples import NO_TEXTS, box_of, end_of, erases_of, falls_of

NOT_ROLLING = ["111", "1.1", "11.11", "111.1111", "1111.111", "111.111.111", "1.1.1", "1" * 60, "1." + "1" * 60]
STORES = [
    Store([1], [("1", "a"), ("0", "b")], [("a", "b"), ("b", "a")]), Store([1], [("1", "a"), ("0", "b")], [("a", "b")]),
    Store([1], [("*", "a")], [("a", "b"), ("b", "a")]), Store([1], [("0", "a")], [("a", "b"), ("b", "a")]),
    Store([1], [("1", "a")], [("c", "a"), ("a", "c"), ("b", "c")]), Store([1], [("0", "z"), ("1", "y")], [("y", "z"), ("x", "y")]),
    Store([1], [], []), Store([1], [], [("a", "b")]), Store([1], [("1", "a"), ("0", "b"), ("*", "c")], [("a", "c")])]


class LiveTest(unittest.TestCase):
    def test_worked_by_hand(self):
        self.assertEqual((live("10101.01111"), live("10101.10111"), live("11101.01111"), live("00111.11111")), (1, 0, 1, None))
        self.assertEqual(content("10101.01110"), "110")

    def test_all_pairs_of_headers(self):
        told = {("00", "00"): None, ("00", "01"): 1, ("00", "10"): 1, ("00", "11"): None,
                ("01", "00"): 0, ("01", "01"): 0, ("01", "10"): 1, ("01", "11"): 0,
                ("10", "00"): 0, ("10", "01"): 1, ("10", "10"): 0, ("10", "11"): 0,
                ("11", "00"): None, ("11", "01"): 1, ("11", "10"): 1, ("11", "11"): None}
        for (one, other), at in told.items():
            for many in (1, 2, 58):
                parts = ["10" * many, "01" * many]
                parts = [part[:many] for part in parts]
                x = one + parts[0] + "." + other + parts[1]
                self.assertEqual(live(x), at, x)
                self.assertEqual(content(x), None if at is None else parts[at], x)

    def test_against_the_words(self):
        for size in (3, 4):
            for x in rolling_patterns(size):
                self.assertEqual((live(x), content(x)), (live_by_words(x), content_by_words(x)))

    def test_headers_first(self):
        self.assertEqual(headers_first("111.000"), (0, 1, 3, 4, 2, 5))
        self.assertEqual(headers_first("10101.01111"), (0, 1, 5, 6, 2, 3, 4, 7, 8, 9))
        x = "1" * 60 + "." + "0" * 60
        self.assertEqual(headers_first(x), (0, 1, 60, 61, *range(2, 60), *range(62, 120)))

    def test_errors(self):
        for call in (live, content, headers_first, lambda x: move(x, None)):
            for thing in NO_TEXTS:
                with self.assertRaises(NoPattern) as caught:
                    call(thing)
                self.assertEqual(caught.exception.at, 0)
            for thing, at in (("", 0), ("111.", 4), ("111.1x1", 5), ("1*1.111", 1), ("111.111.111.1", 11), ("111..111", 4)):
                with self.assertRaises(NoPattern) as caught:
                    call(thing)
                self.assertEqual(caught.exception.at, at)
            for x in NOT_ROLLING:
                with self.assertRaises(Unlike):
                    call(x)


class MoveTest(unittest.TestCase):
    def test_worked_by_hand(self):
        self.assertEqual(move("10011.11111", "111"), [("fall", (5,))])
        self.assertEqual(move("10011.01101", "000"), [("erase", 0), ("fall", (2, 3, 4)), ("fall", (0,))])
        self.assertEqual(move("10011.11101", "101"), [("fall", (5,))])
        self.assertEqual(move("10011.11101", "110"), [("erase", 1), ("fall", (9,)), ("fall", (5,))])

    def test_an_erase_a_fall_or_the_header_alone(self):
        self.assertEqual(move("101.111", "1"), [("fall", (3,))])
        self.assertEqual(move("101.111", "0"), [("fall", (5,)), ("fall", (3,))])
        self.assertEqual(move("101.110", "0"), [("fall", (3,))])
        self.assertEqual(move("101.110", "1"), [("erase", 1), ("fall", (3,))])
        self.assertEqual(move("101.101", "1"), [("erase", 1), ("fall", (3,))])
        self.assertEqual(move("101.100", "0"), [("erase", 1), ("fall", (5,)), ("fall", (3,))])
        self.assertEqual(move("011.111", "1"), [("fall", (4,))])
        self.assertEqual(move("111.101", "1"), [("fall", (1,))])
        self.assertEqual(move("111.011", "1"), [("fall", (0,))])

    def test_against_the_words(self):
        for size in (3, 4):
            for x in rolling_patterns(size):
                for fresh in contents(size - 2):
                    if can_begin(x):
                        self.assertEqual(move(x, fresh), move_by_words(x, fresh), (x, fresh))
                    else:
                        with self.assertRaises(Foreign) as caught:
                            move(x, fresh)
                        self.assertEqual(caught.exception.found, x)

    def test_the_largest(self):
        x = "10" + "1" * 58 + "." + "11" + "1" * 58
        self.assertEqual(move(x, "0" * 58), [("fall", tuple(range(62, 120))), ("fall", (60,))])
        self.assertEqual(move(x, "1" * 57 + "0"), [("fall", (119,)), ("fall", (60,))])

    def look_along(self, x, fresh, cuts):
        """Look that each cut of each write of a move leaves what point 48 says, and go on from there."""
        old, here = content(x), x
        writes = move(x, fresh)
        self.assertTrue(1 <= len(writes) <= 3)
        for number, write in enumerate(writes):
            after = end_of(here, write)
            for z in box_of(here, after):
                is_end = number == len(writes) - 1 and z == after
                self.assertTrue(can_begin(z), (x, fresh, z))
                self.assertEqual(content(z), fresh if is_end else old, (x, fresh, z))
                cuts[z] = True
            here = after
        self.assertNotEqual(live(here), live(x))
        return here

    def test_each_cut_of_each_move(self):
        dice = random.Random(3)
        large = list(filter(can_begin, rolling_patterns(4)))
        for x in [*filter(can_begin, rolling_patterns(3)), *dice.sample(large, 30)]:
            for fresh in contents(len(x) // 2 - 2):
                cuts = {}
                self.look_along(x, fresh, cuts)
                for z in cuts:
                    for again in contents(len(x) // 2 - 2):
                        self.assertEqual(content(self.look_along(z, again, {})), again)

    def test_the_live_block_is_not_touched(self):
        for x in filter(can_begin, rolling_patterns(4)):
            for fresh in contents(2):
                here = x
                for write in move(x, fresh):
                    here = end_of(here, write)
                self.assertEqual(here.split(".")[live(x)], x.split(".")[live(x)])

    def test_errors_in_their_order(self):
        for x, fresh, at in (("10111.11111", "1111", 3), ("10111.11111", "11", 2), ("10111.11111", "", 0), ("10111.11111", "1x1", 1),
                             ("10111.11111", "1.1", 1), ("11111.11111", "2", 0), ("00111.10111", "11", 2), ("10111.11111", "111x", 3)):
            with self.assertRaises(NoPattern) as caught:
                move(x, fresh)
            self.assertEqual(caught.exception.at, at, (x, fresh))
        for fresh in NO_TEXTS:
            with self.assertRaises(NoPattern) as caught:
                move("11111.11111", fresh)
            self.assertEqual(caught.exception.at, 0)
        for x in ("11111.11111", "00111.11111", "00111.00111", "00111.10111", "01111.00000"):
            with self.assertRaises(Foreign) as caught:
                move(x, "111")
            self.assertEqual(caught.exception.found, x)
        with self.assertRaises(Unlike):
            move("11.11", "x")

    def test_a_new_list_each_time(self):
        move("101.111", "0").clear()
        self.assertEqual(len(move("101.111", "0")), 2)


class SlowReaderTest(unittest.TestCase):
    def orders(self, dice, size):
        """Return orders that take the headers first, each part in any order."""
        heads, rest = [0, 1, size, size + 1], [*range(2, size), *range(size + 2, 2 * size)]
        dice.shuffle(heads)
        dice.shuffle(rest)
        return tuple(heads + rest)

    def test_headers_first(self):
        dice = random.Random(1)
        for size in (3, 4):
            for x in filter(can_begin, rolling_patterns(size)):
                for fresh in contents(size - 2):
                    for order in (headers_first(x), self.orders(dice, size)):
                        for z in seen(x, move(x, fresh), order):
                            self.assertIn(content(z), (content(x), fresh), (x, fresh, order, z))

    def test_a_fall_of_a_bit_of_the_live_content(self):
        dice = random.Random(2)
        for x in filter(can_begin, rolling_patterns(4)):
            for bit in (2, 3):
                if x.split(".")[live(x)][bit] == "1":
                    write = ("fall", (live(x) * 4 + bit,))
                    for order in (headers_first(x), self.orders(dice, 4)):
                        for z in seen(x, [write], order):
                            self.assertIn(content(z), (content(x), content(end_of(x, write))))

    def test_it_is_wrong_for_contents_first_and_for_two_moves(self):
        x = "1011.1111"
        last = (2, 3, 6, 7, 0, 1, 4, 5)
        shown = {content(z) for z in seen(x, move(x, "00"), last)}
        self.assertFalse(shown <= {"11", "00"})
        x = "1000.1111"
        writes = move(x, "01")
        here = x
        for write in writes:
            here = end_of(here, write)
        two = writes + move(here, "10")
        shown = {content(z) for z in seen(x, two, headers_first(x))}
        self.assertFalse(shown <= {"00", "01", "10"})

    def test_no_look_of_a_rolling_driver_is_wrong(self):
        both, driver = rolling(STORES[0])
        for start in ("101.111", "100.111", "101.011", "011.101"):
            self.assertIsNone(look_fault(both, driver, headers_first(start), start, None))


class RollingTest(unittest.TestCase):
    def test_worked_by_hand(self):
        both, driver = rolling(STORES[0])
        self.assertEqual((both.read("101.111"), both.read("100.011"), both.read("111.111")), ("a", "a", None))
        self.assertEqual((judge(both, driver, "101.111")[0], worths(both)["101.111"]), ("closed", "ever"))

    def test_all_patterns(self):
        for store in STORES:
            both, driver = rolling(store)
            self.assertEqual(both.sizes, (3, 3))
            self.assertEqual(both.changes(), store.changes())
            told = set(store.states)
            self.assertLessEqual(set(both.states), told)
            for x in rolling_patterns(3):
                held = content_by_words(x)
                self.assertEqual(both.read(x), None if held is None else store.read(held))
                for t in [*store.states, "zz"]:
                    self.assertEqual(driver.write_for(x, t), self.due(store, x, t), (x, t))
                self.assertIsNone(driver.write_for(x, ""))

    def due(self, store, x, t):
        """Return the write that is due by the words of the interface."""
        fresh = "1" if store.read("1") == t else "0" if store.read("0") == t else None
        if fresh is None or not can_begin(x) or t not in [target for _, target in store.changes()]:
            return None
        return move_by_words(x, fresh)[0]

    def test_no_quiet_rows(self):
        for store in STORES:
            self.assertNotIn("", [wish for _, wish, _ in rolling(store)[1].rows()])

    def test_each_good_start_is_closed(self):
        for store in (STORES[0], Toggle(1).as_store()):
            both, driver = rolling(store)
            for x in rolling_patterns(3):
                if can_begin(x):
                    self.assertEqual(judge(both, driver, x)[0], "closed")

    def test_other_stores(self):
        for sizes in ([2], [1, 1], [6], [1, 1, 1], [3, 3]):
            with self.assertRaises(NoStore) as caught:
                rolling(Store(sizes, [], []))
            self.assertEqual((caught.exception.part, caught.exception.at), ("sizes", None))

    def test_all_writes_are_writes_of_the_patterns(self):
        both, driver = rolling(STORES[0])
        for x in both.patterns():
            for t in ("a", "b"):
                write = driver.write_for(x, t)
                if write is not None:
                    self.assertIn(write, falls_of(x) + erases_of(x))


if __name__ == "__main__":
    unittest.main()
