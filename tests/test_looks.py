"""Tests of fallenbits.looks: points 39, 40, 42 and 2."""

import itertools
import random
import unittest

from fallenbits.drivers import Driver
from fallenbits.errors import NoOrder, NoPattern, NoWrite, TooMany, Unlike
from fallenbits.judge import judge
from fallenbits.looks import look_fault, moments, seen, shows_look
from fallenbits.stores import Store
from fallenbits.worths import worths
from tests.reading import moments_by_steps, seen_by_steps, wrong_looks
from tests.runs import led_to, some_driver, some_runs
from tests.samples import (
    NO_LISTS, NO_NUMBERS, NO_TEXTS, NO_TUPLES, ODD_THINGS, bits_of, box_of, end_of, erases_of, falls_of, texts_of)

FALLS = [("fall", (0,)), ("fall", (1,))]
SIZES = [(1,), (2,), (3,), (1, 1), (2, 1), (1, 2), (1, 1, 1), (2, 2), (4,)]


def some_rows(seed, many, most):
    """Return tuples (x, writes, order) made by dice: rows of at most so many writes."""
    dice = random.Random(seed)
    found = []
    for _ in range(many):
        sizes = dice.choice(SIZES)
        x = dice.choice(texts_of(sizes))
        here, writes = x, []
        for _ in range(dice.randint(0, most)):
            choices = falls_of(here) + 2 * erases_of(here)
            writes.append(dice.choice(choices))
            here = end_of(here, writes[-1])
        order = list(range(sum(sizes)))
        dice.shuffle(order)
        found.append((x, writes, tuple(order)))
    return found


class SeenTest(unittest.TestCase):
    def test_worked_by_hand(self):
        self.assertEqual(seen("11", FALLS, (1, 0)), ["00", "01", "11"])
        self.assertEqual(seen("11", FALLS, (0, 1)), ["00", "01", "10", "11"])
        self.assertEqual(seen("01", [("erase", 0), ("fall", (1,))], (0, 1)), ["00", "01", "10", "11"])
        self.assertEqual(seen("01", [("erase", 0), ("fall", (1,))], (1, 0)), ["01", "10", "11"])

    def test_no_write(self):
        for x in ("0", "1", "10", "1.0", "01.10.1"):
            for order in ([*range(len(bits_of(x)))], [*range(len(bits_of(x)))][::-1]):
                self.assertEqual(seen(x, [], tuple(order)), [x])

    def test_one_write_shows_its_box_in_each_order(self):
        for sizes in [(2,), (3,), (1, 2), (2, 1), (1, 1, 1)]:
            for x in texts_of(sizes):
                for write in falls_of(x) + erases_of(x):
                    for order in itertools.permutations(range(sum(sizes))):
                        self.assertEqual(seen(x, [write], order), box_of(x, end_of(x, write)))

    def test_against_the_steps(self):
        for x, writes, order in some_rows(1, 400, 4):
            found = seen(x, writes, order)
            self.assertEqual(set(found), seen_by_steps(x, writes, order), (x, writes, order))
            self.assertEqual(found, sorted(set(found)))

    def test_each_box_can_be_seen_but_more_too(self):
        more = 0
        for x, writes, order in some_rows(2, 300, 4):
            boxes, here = {x}, x
            for write in writes:
                boxes.update(box_of(here, end_of(here, write)))
                here = end_of(here, write)
            found = set(seen(x, writes, order))
            self.assertLessEqual(boxes, found)
            more += boxes < found
        self.assertGreater(more, 20)

    def test_a_bit_that_rises_again(self):
        writes = [("fall", (0,)), ("erase", 0), ("fall", (1,))]
        self.assertEqual(seen("11", writes, (0, 1)), ["00", "01", "10", "11"])
        self.assertEqual(seen("11", writes, (1, 0)), ["01", "10", "11"])

    def test_ten_changed_bits_and_eleven(self):
        order = tuple(range(22))
        ten, eleven = ("fall", tuple(range(10))), ("fall", tuple(range(11)))
        x = "1" * 11 + "." + "1" * 11
        self.assertEqual(len(seen(x, [ten], order)), 1024)
        self.assertEqual(seen(x, [ten], order), seen(x, [ten], order[::-1]))
        with self.assertRaises(TooMany):
            seen(x, [eleven], order)
        with self.assertRaises(TooMany):
            seen(x, [ten, ("fall", (21,))], order)
        with self.assertRaises(TooMany):
            seen("0" * 11, [("erase", 0)], tuple(range(11)))
        # A bit that is changed twice, or each bit many times, counts once.
        self.assertEqual(len(seen(x, [ten, ("erase", 0), ten, ("erase", 0)], order)), 1024)
        self.assertEqual(len(seen(x, [ten, ("erase", 0)] * 300, order[::-1])), 1024)
        self.assertEqual(moments(x, [eleven], order, x), [0] * 22)

    def test_bits_that_have_fallen_before_do_not_count(self):
        x = "1" * 11 + "." + "0" * 11
        writes = [("fall", tuple(range(10)))]
        self.assertEqual(len(seen(x, writes, tuple(range(22)))), 1024)
        with self.assertRaises(TooMany):
            seen(x, writes + [("fall", (10,))], tuple(range(22)))

    def test_a_large_pattern(self):
        x = "1" * 60 + "." + "1" * 60
        writes = [("fall", (5,)), ("fall", (100,)), ("erase", 0)]
        ahead, behind = tuple(range(120)), tuple(range(119, -1, -1))
        ends = [x, end_of(x, writes[0])]
        ends += [end_of(ends[1], writes[1]), end_of(x, writes[1])]
        self.assertEqual(seen(x, writes, ahead), sorted(ends))
        self.assertEqual(seen(x, writes, behind), sorted(ends))
        self.assertEqual(seen(x, writes[:2], behind), sorted(ends[:3]))


class MomentsTest(unittest.TestCase):
    def test_worked_by_hand(self):
        self.assertEqual(moments("11", FALLS, (0, 1), "10"), [0, 3])
        self.assertIsNone(moments("11", FALLS, (1, 0), "10"))

    def test_against_all_rows_of_positions(self):
        lacking = 0
        for x, writes, order in some_rows(3, 150, 4):
            found = seen(x, writes, order)
            for z in texts_of([len(part) for part in x.split(".")]):
                told = moments(x, writes, order, z)
                self.assertEqual(told, moments_by_steps(x, writes, order, z), (x, writes, order, z))
                self.assertEqual(told is not None, z in found)
                lacking += told is None
        self.assertGreater(lacking, 20)

    def test_no_write(self):
        self.assertEqual(moments("1.01", [], (2, 0, 1), "1.01"), [0, 0, 0])
        self.assertIsNone(moments("1.01", [], (2, 0, 1), "1.11"))

    def test_many_writes(self):
        writes = [("fall", (0,)), ("erase", 0)] * 700
        self.assertEqual(moments("11", writes, (0, 1), "01"), [1, 1])
        self.assertEqual(moments("11", writes + [("fall", (1,))], (0, 1), "00"), [1, 2801])
        self.assertEqual(moments("11", writes + [("fall", (1,))], (1, 0), "10"), [2801, 2801])
        self.assertIsNone(moments("11", writes + [("fall", (1,))], (1, 0), "00"))


class ErrorTest(unittest.TestCase):
    def test_no_pattern(self):
        for thing in [*NO_TEXTS, "", "1.", "12"]:
            for writes in ([None], [], None):
                with self.assertRaises(NoPattern):
                    seen(thing, writes, None)
                with self.assertRaises(NoPattern):
                    moments(thing, writes, None, thing)
            with self.assertRaises(NoPattern):
                moments(thing, [None], None, None)
            with self.assertRaises(NoPattern) as caught:
                moments("11", [None], None, thing)
            self.assertEqual(caught.exception.at, {"1.": 2, "12": 1}.get(str(thing), 0))
        with self.assertRaises(NoPattern) as caught:
            moments("1.x", [], (0, 1), "12")
        self.assertEqual(caught.exception.at, 2)

    def test_unlike(self):
        for z in ("1", "111", "1.1"):
            with self.assertRaises(Unlike):
                moments("11", [None], None, z)

    def test_no_write(self):
        for thing in [*ODD_THINGS, ("fall", (1,)), ("fall", [0]), ["fall", (0,)], ("erase", 1), ("fall", (0, 1))]:
            with self.assertRaises(NoWrite):
                seen("10", [thing], None)
            with self.assertRaises(NoWrite):
                moments("10", [("fall", (0,)), ("erase", 0), thing, ("fall", (1,))], None, "10")
        for writes in ([("fall", (0,)), ("fall", (0,))], [("erase", 0)], [("fall", (0,)), ("erase", 0), ("erase", 0)]):
            with self.assertRaises(NoWrite):
                seen("11", writes, (0, 1))

    def test_no_order(self):
        wrong = [*NO_TUPLES, (), (0,), (0, 0), (0, 2), (0, -1), (1, 1), (0, 1, 2), (0, 1, 1), [0, 1], ("0", "1"),
                 (False, True), (0, True), (0, None), ((0,), (1,)), ([], {}), (0, 10 ** 60)]
        for order in wrong:
            with self.assertRaises(NoOrder):
                seen("11", FALLS, order)
            with self.assertRaises(NoOrder):
                moments("11", FALLS, order, "11")

    def test_no_order_comes_ahead_of_too_many(self):
        with self.assertRaises(NoOrder):
            seen("1" * 11, [("fall", tuple(range(11)))], tuple(range(10)))

    def test_arguments_and_answers_are_kept_apart(self):
        writes, order = list(FALLS), (0, 1)
        found = seen("11", writes, order)
        found.clear()
        self.assertEqual(len(seen("11", writes, order)), 4)
        moments("11", writes, order, "10").clear()
        self.assertEqual(moments("11", writes, order, "10"), [0, 3])
        self.assertEqual(writes, FALLS)


# From 11 to 00 in two quiet falls; 10 reads b, and b is asked from 00.
QUIET = Store([2], [("10", "b"), ("**", "a")], [("a", "b")])
SLOW = Driver(QUIET, [("11", "", ("fall", (0,))), ("01", "", ("fall", (1,))),
                      ("00", "b", ("erase", 0)), ("11", "b", ("fall", (1,)))])
# Two falls for a change; 10 reads c.
STRICT = Store([2], [("11", "a"), ("01", "a"), ("10", "c"), ("00", "b")], [("a", "b")])
TWO = Driver(STRICT, [("11", "b", ("fall", (0,))), ("01", "b", ("fall", (1,)))])
# Three bits: a change by one fall, and then a quiet one behind it.
BEHIND = Store([3], [("111", "a"), ("011", "b"), ("001", "b"), ("101", "c")], [("a", "b")])
AFTER = Driver(BEHIND, [("111", "b", ("fall", (0,))), ("011", "", ("fall", (1,)))])


def closed_runs(seed, many):
    """Return tuples (store, driver, start, changes) of closed drivers with some writes, made by dice."""
    found = []
    dice = random.Random(seed)
    shapes = [(2,), (3,), (1, 1), (2, 1), (1, 1, 1), (2, 2)]
    for store, driver, start in some_runs(seed, many, shapes, ("a", "b", "c"), 0.1, 12):
        quiet = some_driver(dice, store, 3, 1)
        for some in (driver, worths(store).best(), Driver(store, quiet.rows() + driver.rows())):
            for changes in (None, 0, 1, 2):
                if judge(store, some, start, changes)[0] == "closed":
                    found.append((store, some, start, changes))
    return found


def orders_of(store, dice):
    orders = list(itertools.permutations(range(sum(store.sizes))))
    return orders if len(orders) <= 2 else dice.sample(orders, 2)


class LookCase(unittest.TestCase):
    def told(self, store, driver, order, start, changes):
        """Return what look_fault tells, looked at by shows_look."""
        found = look_fault(store, driver, order, start, changes)
        if found is not None:
            self.assertIsInstance(found, tuple)
            self.assertIs(shows_look(store, driver, order, start, changes, found), True)
        return found


class LookFaultTest(LookCase):
    def test_two_falls(self):
        found = self.told(STRICT, TWO, (0, 1), "11", None)
        self.assertEqual(found, ([("ask", "b"), ("done",), ("done",)], 0, "10"))
        self.assertIsNone(self.told(STRICT, TWO, (1, 0), "11", None))
        self.assertIsNone(self.told(STRICT, TWO, (0, 1), "01", None))
        self.assertIsNone(self.told(STRICT, TWO, (0, 1), "11", 0))
        self.assertIsNotNone(self.told(STRICT, TWO, (0, 1), "11", 1))

    def test_a_look_that_ends_ahead_of_its_ask(self):
        # With the ask the look may show b, without it it may not.
        self.assertEqual(judge(QUIET, SLOW, "11")[0], "closed")
        events, many, z = self.told(QUIET, SLOW, (0, 1), "11", None)
        self.assertEqual((events[many:], z), ([("done",), ("done",)], "10"))
        self.assertIsNotNone(self.told(QUIET, SLOW, (0, 1), "11", 0))
        self.assertIsNone(self.told(QUIET, SLOW, (1, 0), "11", 0))
        whole = [("done",), ("done",), ("ask", "b"), ("done",), ("done",)]
        self.assertFalse(shows_look(QUIET, SLOW, (0, 1), "11", None, (whole, 0, "10")))
        self.assertFalse(shows_look(QUIET, SLOW, (0, 1), "11", None, (whole[:3], 0, "10")))
        self.assertTrue(shows_look(QUIET, SLOW, (0, 1), "11", None, (whole[:2], 0, "10")))

    def test_quiet_writes_ahead_of_the_ask(self):
        # Neither the quiet write nor the change alone shows 10, which reads c; both together do.
        store = Store([2], [("*1", "a"), ("00", "b"), ("10", "c")], [("a", "b")])
        driver = Driver(store, [("11", "", ("fall", (0,))), ("01", "b", ("fall", (1,)))])
        self.assertEqual(judge(store, driver, "11")[0], "closed")
        whole = [("done",), ("ask", "b"), ("done",)]
        self.assertEqual(self.told(store, driver, (0, 1), "11", None), (whole, 0, "10"))
        self.assertIsNone(self.told(store, driver, (1, 0), "11", None))
        self.assertIsNone(self.told(store, driver, (0, 1), "11", 0))
        for events, many in ((whole[:1], 0), (whole[:2], 0), (whole, 1)):
            self.assertFalse(shows_look(store, driver, (0, 1), "11", None, (events, many, "10")))

    def test_quiet_writes_behind_the_change(self):
        self.assertEqual(judge(BEHIND, AFTER, "111")[0], "closed")
        events, many, z = self.told(BEHIND, AFTER, (0, 1, 2), "111", None)
        self.assertEqual((events[many:], z), ([("ask", "b"), ("done",), ("done",)], "101"))
        self.assertIsNone(self.told(BEHIND, AFTER, (1, 0, 2), "111", None))
        self.assertFalse(shows_look(BEHIND, AFTER, (0, 1, 2), "111", None, ([("ask", "b"), ("done",)], 0, "101")))

    def test_a_look_behind_a_cut(self):
        # Only behind a cut at 011 are two falls needed.
        store = Store([3], [("111", "a"), ("011", "a"), ("010", "a"), ("000", "b"), ("001", "c")], [("a", "b")])
        driver = Driver(store, [("111", "", ("fall", (0,))), ("011", "b", ("fall", (2,))), ("010", "b", ("fall", (1,)))])
        self.assertEqual(judge(store, driver, "111")[0], "closed")
        found = self.told(store, driver, (2, 0, 1), "111", None)
        self.assertEqual(found[2], "001")
        cut = ([("cut", "011"), ("ask", "b"), ("done",), ("done",)], 1, "001")
        self.assertTrue(shows_look(store, driver, (2, 0, 1), "111", None, cut))
        self.assertFalse(shows_look(store, driver, (2, 0, 1), "111", None, (cut[0], 0, "001")))
        self.assertFalse(shows_look(store, driver, (1, 0, 2), "111", None, cut))

    def test_falls_one_by_one_behind_a_cut_that_no_order_shows(self):
        # In one write all three bits fall; behind a cut they fall one by one, and all but the end reads a.
        store = Store([3], [("000", "b"), ("***", "a")], [("a", "b")])
        driver = Driver(store, [("111", "b", ("fall", (0, 1, 2))), ("***", "b", ("fall", (0,))),
                                ("***", "b", ("fall", (1,))), ("***", "b", ("fall", (2,)))])
        self.assertEqual(judge(store, driver, "111")[0], "closed")
        for order in itertools.permutations(range(3)):
            self.assertIsNone(self.told(store, driver, order, "111", None))

    def test_against_all_looks(self):
        dice = random.Random(5)
        wrong = right = behind = quiet = 0
        for store, driver, start, changes in closed_runs(6, 400):
            for order in orders_of(store, dice):
                expected = wrong_looks(store, driver, order, start, changes)
                found = self.told(store, driver, order, start, changes)
                self.assertEqual(found is not None, bool(expected), (store.rules(), driver.rows(), order, start))
                if found is None:
                    right += 1
                    continue
                wrong += 1
                events, many, z = found
                stand = ("rest", start, changes)
                for event in events[:many]:
                    stand = led_to(store, driver, stand, event)
                self.assertIn((stand, events[many:], z), expected)
                behind += any(event[0] == "cut" for event in events[:many])
                quiet += events[many] == ("done",)
        self.assertTrue(wrong > 60 and right > 300 and behind and quiet, (wrong, right, behind, quiet))

    def test_a_start_that_reads_nothing(self):
        store = Store([2], [("1*", "a"), ("01", "b")], [("a", "b")])
        quiet = [("00", "", ("erase", 0)), ("11", "", ("fall", (0,)))]
        for driver in (Driver(store, []), Driver(store, quiet)):
            self.assertIsNone(look_fault(store, driver, (0, 1), "00", None))
            for thing in [None, ([], 0, "00"), ([], 0, "11"), ([("done",)], 0, "11"), ([("cut", "11"), ("done",)], 0, "10")]:
                self.assertIs(shows_look(store, driver, (0, 1), "00", None, thing), False)

    def test_errors(self):
        for call in (look_fault, lambda *given: shows_look(*given, None)):
            for start in [*NO_TEXTS, "", "1.", "112"]:
                with self.assertRaises(NoPattern):
                    call(STRICT, TWO, None, start, None)
            for start in ("1", "1.1", "111"):
                with self.assertRaises(Unlike):
                    call(STRICT, TWO, None, start, None)
            for order in [*NO_TUPLES, (), (0,), (0, 0), (0, 2), (0, 1, 2), (True, 0), [0, 1]]:
                with self.assertRaises(NoOrder):
                    call(STRICT, TWO, order, "11", None)
        with self.assertRaises(NoOrder):
            look_fault(Store([1], [], []), Driver(Store([1], [], []), []), (1,), "1", None)

    def test_what_is_told_is_a_new_list(self):
        look_fault(STRICT, TWO, (0, 1), "11", None)[0].clear()
        self.assertEqual(len(look_fault(STRICT, TWO, (0, 1), "11", None)[0]), 3)


class ShowsLookTest(LookCase):
    WHOLE = [("ask", "b"), ("done",), ("done",)]

    def shown(self, thing, order=(0, 1), changes=None, start="11"):
        found = shows_look(STRICT, TWO, order, start, changes, thing)
        self.assertIsInstance(found, bool)
        return found

    def test_what_is_put_otherwise(self):
        right = (self.WHOLE, 0, "10")
        self.assertTrue(self.shown(right))
        self.assertTrue(self.shown(right, changes=1))
        self.assertFalse(self.shown(right, changes=0))
        self.assertFalse(self.shown(right, order=(1, 0)))
        self.assertFalse(self.shown(right, start="01"))
        for z in ("00", "01", "11", "1", "1.0", "100", *NO_TEXTS):
            self.assertFalse(self.shown((self.WHOLE, 0, z)), z)
        for many in (1, 2, 3, 4, -1, 10 ** 60, *NO_NUMBERS):
            self.assertFalse(self.shown((self.WHOLE, many, "10")), many)
        for events in (self.WHOLE[:2], self.WHOLE[1:], [], self.WHOLE + [("done",)], [("ask", "b")] + self.WHOLE,
                       [("ask", "c")] + self.WHOLE[1:], tuple(self.WHOLE), [list(event) for event in self.WHOLE],
                       [("ask", "b"), ("done",), ("cut", "00")], [("ask", "b"), ("cut", "01"), ("done",)],
                       [("ask", "b"), ("done",), ("done", 1)], *NO_LISTS):
            self.assertFalse(self.shown((events, 0, "10")), events)
        for thing in (list(right), right + (0,), right[:2], (right,), {"events": right}):
            self.assertFalse(self.shown(thing))

    def test_of_anything(self):
        deep = []
        for _ in range(50):
            deep = [deep]
        things = [*ODD_THINGS, deep, "x" * 6000, [None] * 2000, 10 ** 800]
        for thing in things:
            self.assertFalse(self.shown(thing))
            self.assertFalse(self.shown((thing, 0, "10")))
            self.assertFalse(self.shown((self.WHOLE, 0, thing)))
            self.assertFalse(self.shown((self.WHOLE + [thing], 0, "10")))
            self.assertFalse(self.shown(([thing] + self.WHOLE, 1, "10")))
        for thing in NO_NUMBERS:
            self.assertFalse(self.shown((self.WHOLE, thing, "10")))

    def test_a_look_begins_at_rest(self):
        rows = [("cut", "01")] + self.WHOLE[:2]
        self.assertFalse(self.shown((rows, 1, "10")))
        long = [("ask", "b"), ("cut", "11")] * 100 + self.WHOLE
        self.assertTrue(self.shown((long, 200, "10")))
        self.assertFalse(self.shown((long, 199, "10")))
        self.assertFalse(self.shown((long, 198, "10")))

    def test_only_one_ask(self):
        store = Store([2], [("11", "a"), ("01", "b"), ("00", "c")], [("a", "b"), ("b", "c")])
        driver = Driver(store, [("11", "b", ("fall", (0,))), ("01", "c", ("fall", (1,)))])
        two = [("ask", "b"), ("done",), ("ask", "c"), ("done",)]
        self.assertEqual(judge(store, driver, "11")[0], "closed")
        self.assertIsNone(look_fault(store, driver, (0, 1), "11", None))
        self.assertFalse(shows_look(store, driver, (0, 1), "11", None, (two, 0, "10")))
        self.assertFalse(shows_look(store, driver, (0, 1), "11", None, (two, 2, "10")))

    def test_against_all_looks(self):
        dice = random.Random(7)
        truths = 0
        for store, driver, start, changes in closed_runs(8, 400):
            order = orders_of(store, dice)[0]
            expected = wrong_looks(store, driver, order, start, changes)
            first = ("rest", start, changes)
            right = {(tuple(events), z) for stand, events, z in expected if stand == first}
            rows = {tuple(events) for events, _ in right} | {(("done",),), (("ask", "b"), ("done",)), (("ask", "a"), ("done",))}
            for events in rows:
                for z in texts_of(store.sizes):
                    told = shows_look(store, driver, order, start, changes, (list(events), 0, z))
                    self.assertEqual(told, (events, z) in right, (store.rules(), driver.rows(), order, start, events, z))
                    truths += told
        self.assertGreater(truths, 20)


if __name__ == "__main__":
    unittest.main()
