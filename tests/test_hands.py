"""Tests of fallenbits.hands: points 19 and 2."""

import unittest

from fallenbits.devices import Device
from fallenbits.drivers import Driver
from fallenbits.errors import Cut, NoState, NotInBox, Stranded, Unlike
from fallenbits.hands import Hand
from fallenbits.stores import Store
from tests.runs import led_to, some_runs
from tests.samples import ODD_THINGS, end_of

# The first three patterns read a, 001 and 010 read b, 000 reads c; 011 and 101 read nothing.
STORE = Store([3], [("11*", "a"), ("100", "a"), ("001", "b"), ("010", "b"), ("000", "c")],
              [("a", "b"), ("b", "a"), ("a", "c"), ("b", "c")])
ROWS = [("111", "", ("fall", (2,))), ("110", "b", ("fall", (0,))), ("110", "c", ("fall", (1,))),
        ("100", "c", ("fall", (0,))), ("010", "a", ("erase", 0)), ("0**", "c", ("fall", (0, 1, 2)))]


def hand(rows=ROWS, store=STORE):
    return Hand(store, Driver(store, rows))


class HandCase(unittest.TestCase):
    def stranded(self, found, device, call, *given):
        with self.assertRaises(Stranded) as caught:
            call(device, *given)
        self.assertEqual((caught.exception.found, device.pattern), (found, found))


class HandTest(HandCase):
    def test_a_change_of_one_write(self):
        device = Device("110")
        self.assertEqual(hand()(device, "b"), 1)
        self.assertEqual((device.pattern, device.ended, device.stood()), ("010", 1, ["110", "010"]))

    def test_a_change_of_two_writes(self):
        device = Device("110")
        self.assertEqual(hand()(device, "c"), 2)
        self.assertEqual(device.stood(), ["110", "100", "000"])

    def test_quiet_writes_first_and_they_count(self):
        device = Device("111")
        self.assertEqual(hand()(device, "c"), 3)
        self.assertEqual(device.stood(), ["111", "110", "100", "000"])
        device = Device("111")
        rows = [("1*1", "", ("fall", (2,))), ("110", "", ("fall", (1,))), ("100", "c", ("fall", (0,)))]
        self.assertEqual(hand(rows)(device, "c"), 3)
        self.assertEqual(device.stood(), ["111", "110", "100", "000"])

    def test_quiet_rows_wait_while_a_change_is_under_way(self):
        # At 100 a quiet row applies, too, but the change goes on.
        rows = [("110", "c", ("fall", (1,))), ("100", "c", ("fall", (0,))), ("100", "", ("erase", 0))]
        device = Device("110")
        self.assertEqual(hand(rows)(device, "c"), 2)
        self.assertEqual(device.stood(), ["110", "100", "000"])

    def test_quiet_rows_behind_a_change_wait_for_the_next_call(self):
        rows = [("110", "b", ("fall", (0,))), ("010", "", ("fall", (1,)))]
        device = Device("110")
        self.assertEqual(hand(rows)(device, "b"), 1)
        self.assertEqual(device.pattern, "010")
        self.stranded("000", device, hand(rows).wake)

    def test_several_changes_and_several_devices(self):
        does = hand()
        device, other = Device("111"), Device("110")
        self.assertEqual([does(device, t) for t in ("b", "a", "b", "c")], [2, 1, 2, 1])
        self.assertEqual(device.stood(), ["111", "110", "010", "111", "110", "010", "000"])
        self.assertEqual((does(other, "b"), other.pattern, device.ended), (1, "010", 6))

    def test_a_fall_with_those_of_its_bits_that_stand(self):
        device = Device("010")
        self.assertEqual(hand()(device, "c"), 1)
        self.assertEqual(device.pattern, "000")

    def test_what_the_device_tells_behind_it(self):
        device = Device("001")
        self.assertEqual(hand([("001", "a", ("erase", 0)), ("111", "", ("fall", (2,)))])(device, "a"), 1)
        self.assertEqual((device.pattern, device.ended, device.cuts, device.erases, device.armed), ("111", 1, 0, (1,), None))

    def test_other_sizes(self):
        for text in ("1", "11", "1111", "1.11", "11.1", "1.1.1", "000.000"):
            device = Device(text)
            for call in (lambda: hand()(device, "b"), lambda: hand()(device, "x"), lambda: hand().wake(device)):
                with self.assertRaises(Unlike):
                    call()
            self.assertEqual((device.pattern, device.ended), (text, 0))

    def test_no_state(self):
        for t in ODD_THINGS + ["d", "a ", "A", ["b"], ("b",)]:
            if t == "a":
                continue
            device = Device("111")
            with self.assertRaises(NoState):
                hand()(device, t)
            # The quiet write has been done.
            self.assertEqual((device.pattern, device.ended), ("110", 1))
        device = Device("110")
        with self.assertRaises(NoState):
            hand()(device, "a")
        device = Device("000")
        for t in ("a", "b", "c"):
            with self.assertRaises(NoState):
                hand()(device, t)
        self.assertEqual(device.stood(), ["000"])

    def test_no_state_with_an_armed_failure_that_no_write_uses_up(self):
        device = Device("110")
        device.arm("100")
        with self.assertRaises(NoState):
            hand()(device, "d")
        self.assertEqual((device.armed, device.pattern), ("100", "110"))

    def test_the_states_are_those_behind_the_quiet_writes(self):
        # A state has targets of its own; the quiet writes must keep it, so the asked change is one of it.
        device = Device("111")
        with self.assertRaises(NoState):
            hand()(device, "a")
        self.assertEqual(device.pattern, "110")


class StrandedTest(HandCase):
    def test_a_pattern_that_reads_nothing_at_first(self):
        for text in ("011", "101"):
            self.stranded(text, Device(text), hand(), "b")
            self.stranded(text, Device(text), hand(), "no state")
            self.stranded(text, Device(text), hand().wake)
        device = Device("011")
        self.stranded("011", device, hand([("***", "", ("erase", 0)), ("***", "b", ("fall", (1,)))]), "b")
        self.assertEqual(device.ended, 0)

    def test_unlike_comes_first(self):
        device = Device("01")
        with self.assertRaises(Unlike):
            hand()(device, "b")

    def test_no_row_applies(self):
        self.stranded("110", Device("110"), hand([]), "b")
        self.stranded("110", Device("111"), hand(ROWS[:1]), "b")
        device = Device("110")
        self.stranded("100", device, hand(ROWS[2:3]), "c")
        self.assertEqual((device.ended, device.stood()), (1, ["110", "100"]))

    def test_a_change_that_ends_where_nothing_or_another_state_is_read(self):
        device = Device("111")
        self.stranded("011", device, hand([("111", "b", ("fall", (0,)))]), "b")
        self.assertEqual(device.stood(), ["111", "011"])
        self.stranded("000", Device("110"), hand([("110", "b", ("fall", (0, 1)))]), "b")
        self.stranded("010", Device("110"), hand([("110", "c", ("fall", (0,))), ("010", "c", ("fall", (1,)))]), "c")
        self.stranded("101", Device("110"),
                      hand([("110", "b", ("erase", 0)), ("111", "b", ("fall", (1,))), ("101", "b", ("fall", (0,)))]), "b")

    def test_quiet_writes_that_end_where_nothing_or_another_state_is_read(self):
        for call, given in ((hand([("111", "", ("fall", (0,)))]), ("b",)), (hand([("111", "", ("fall", (0,)))]).wake, ())):
            self.stranded("011", Device("111"), call, *given)
        for call, given in ((hand([("110", "", ("fall", (0,)))]), ("b",)), (hand([("110", "", ("fall", (0,)))]).wake, ())):
            self.stranded("010", Device("110"), call, *given)
        device = Device("111")
        self.stranded("000", device, hand([("11*", "", ("fall", (2,))), ("110", "", ("fall", (0, 1)))]), "c")
        self.assertEqual((device.stood(), device.ended), (["111", "110", "000"], 2))

    def test_a_pattern_that_comes_a_second_time_by_quiet_writes(self):
        rows = [("111", "", ("fall", (2,))), ("110", "", ("erase", 0))]
        for call, given in ((hand(rows), ("b",)), (hand(rows).wake, ())):
            device = Device("111")
            self.stranded("111", device, call, *given)
            self.assertEqual(device.stood(), ["111", "110", "111"])
        rows = [("100", "", ("erase", 0)), ("111", "", ("fall", (2,))), ("110", "", ("erase", 0))]
        device = Device("100")
        self.stranded("111", device, hand(rows).wake)
        self.assertEqual(device.stood(), ["100", "111", "110", "111"])

    def test_a_pattern_that_comes_a_second_time_within_a_change(self):
        rows = [("110", "b", ("fall", (1,))), ("100", "b", ("erase", 0)), ("111", "b", ("fall", (2,)))]
        device = Device("110")
        self.stranded("110", device, hand(rows), "b")
        self.assertEqual(device.stood(), ["110", "100", "111", "110"])
        rows = [("100", "b", ("erase", 0)), ("111", "b", ("fall", (2,))), ("110", "b", ("erase", 0))]
        device = Device("100")
        self.stranded("111", device, hand(rows), "b")
        self.assertEqual(device.stood(), ["100", "111", "110", "111"])

    def test_a_pattern_may_come_by_a_quiet_write_and_again_within_the_change(self):
        rows = [("111", "", ("fall", (2,))), ("110", "b", ("fall", (1,))), ("100", "b", ("erase", 0)),
                ("111", "b", ("fall", (0, 2)))]
        device = Device("111")
        self.assertEqual(hand(rows)(device, "b"), 4)
        self.assertEqual(device.stood(), ["111", "110", "100", "111", "010"])


class WakeTest(HandCase):
    def test_no_quiet_row_applies(self):
        for text in ("110", "100", "010", "000"):
            device = Device(text)
            self.assertEqual(hand().wake(device), 0)
            self.assertEqual(device.stood(), [text])

    def test_some_apply(self):
        device = Device("111")
        self.assertEqual(hand().wake(device), 1)
        self.assertEqual(device.stood(), ["111", "110"])
        self.assertEqual(hand().wake(device), 0)
        device = Device("111")
        self.assertEqual(hand([("111", "", ("fall", (2,))), ("110", "", ("fall", (1,)))]).wake(device), 2)
        self.assertEqual(device.stood(), ["111", "110", "100"])

    def test_no_state_is_asked_for(self):
        device = Device("000")
        self.assertEqual(hand().wake(device), 0)


class PowerTest(HandCase):
    def test_a_cut_of_a_change(self):
        device = Device("110")
        device.arm("110")
        with self.assertRaises(Cut) as caught:
            hand()(device, "c")
        self.assertEqual((caught.exception.found, device.pattern, device.ended, device.cuts), ("110", "110", 0, 1))
        self.assertEqual(hand()(device, "c"), 2)

    def test_a_cut_of_a_quiet_write(self):
        for call, given in ((hand(), ("c",)), (hand().wake, ())):
            for z in ("110", "111"):
                device = Device("111")
                device.arm(z)
                with self.assertRaises(Cut) as caught:
                    call(device, *given)
                self.assertEqual((caught.exception.found, device.pattern, device.ended), (z, z, 0))

    def test_not_in_box(self):
        device = Device("110")
        device.arm("000")
        with self.assertRaises(NotInBox):
            hand()(device, "c")
        self.assertEqual((device.pattern, device.ended, device.armed), ("110", 0, None))
        device = Device("111")
        device.arm("000")
        with self.assertRaises(NotInBox):
            hand().wake(device)
        self.assertEqual((device.pattern, device.ended, device.cuts), ("111", 0, 0))

    def test_what_has_been_written_stays_written(self):
        # The first write of the change ends; the second one is cut by a failure armed behind the first.
        device = Device("110")
        does = hand()
        device.arm("100")
        with self.assertRaises(Cut):
            does(device, "c")
        self.assertEqual(device.stood(), ["110", "100"])
        device.arm("000")
        with self.assertRaises(Cut) as caught:
            does(device, "c")
        self.assertEqual((caught.exception.found, device.stood()), ("000", ["110", "100", "000"]))


def done_by_words(store, driver, device, wish, goal):
    """Do writes for a wish by the words of point 19; return how many, or None if the hand is stranded."""
    old, passed = store.read(device), [device]
    while goal is None or store.read(passed[-1]) != goal:
        write = driver.write_for(passed[-1], wish)
        if write is None:
            return (len(passed) - 1, passed[-1], goal is not None)
        z = end_of(passed[-1], write)
        if store.read(z) not in ((old,) if goal is None else (old, goal)) or z in passed:
            return (len(passed), z, True)
        passed.append(z)
    return (len(passed) - 1, passed[-1], False)


class ManyTest(HandCase):
    def test_against_the_words(self):
        outcomes = set()
        for store, driver, start in some_runs(3, 400, [(2,), (1, 1), (3,), (2, 1)]):
            for t in store.states:
                device = Device(start)
                quiet, x, stuck = done_by_words(store, driver, start, "", None)
                many = quiet
                if not stuck and t in store.targets(store.read(x)):
                    more, x, stuck = done_by_words(store, driver, x, t, t)
                    many += more
                elif not stuck:
                    stuck = None
                try:
                    told = ("done", Hand(store, driver)(device, t))
                except Stranded as error:
                    told = ("stranded", error.found)
                except NoState:
                    told = ("no state", None)
                right = {True: ("stranded", x), False: ("done", many), None: ("no state", None)}[stuck]
                self.assertEqual((told, device.pattern, device.ended), (right, x, many))
                outcomes.add((told[0], quiet > 0))
        self.assertEqual(len(outcomes), 6)

    def test_a_hand_goes_where_a_run_goes(self):
        for store, driver, start in some_runs(4, 300, [(2,), (1, 1), (3,)], names=("a", "b"), gap=0.0):
            for t in store.targets(store.read(start)):
                device = Device(start)
                try:
                    many = Hand(store, driver)(device, t)
                except Stranded:
                    continue
                stand, events = ("rest", start, 1), 0
                while driver.write_for(stand[1], "") is not None:
                    stand, events = led_to(store, driver, stand, ("done",)), events + 1
                stand = led_to(store, driver, stand, ("ask", t))
                while stand[0] == "busy":
                    stand, events = led_to(store, driver, stand, ("done",)), events + 1
                self.assertEqual((stand, events), (("rest", device.pattern, 0), many))


if __name__ == "__main__":
    unittest.main()
