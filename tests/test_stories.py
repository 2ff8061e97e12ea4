"""Tests of fallenbits.stories: points 16 to 18 and 2."""

import itertools
import unittest

from fallenbits.drivers import Driver
from fallenbits.errors import NoEvent, NoPattern, Unlike
from fallenbits.stores import Store
from fallenbits.stories import after, begin, follow, moves
from tests.runs import events_at, led_to, some_runs, stands_from
from tests.samples import NO_TEXTS, ODD_THINGS, texts_of

HUGE = 10 ** 50
LEFTS = (None, 0, 1, 2, 7, HUGE)

# 11 and 10 read a, 01 reads b, 00 reads nothing; in the second block a bit more.
STORE = Store([2, 1], [("1*.*", "a"), ("01.*", "b"), ("00.0", "c")], [("a", "b"), ("b", "a"), ("a", "c")])
ROWS = [("10.0", "", ("erase", 1)), ("11.*", "b", ("fall", (0,))), ("1*.*", "c", ("fall", (0, 1, 2))),
        ("01.*", "a", ("erase", 0)), ("10.1", "b", ("fall", (2,)))]
DRIVER = Driver(STORE, ROWS)


class BeginTest(unittest.TestCase):
    def test_at_a_state(self):
        for left in LEFTS:
            self.assertEqual(begin(STORE, "11.0", left), ("rest", "11.0", left))
            self.assertEqual(begin(STORE, "01.1", left), ("rest", "01.1", left))

    def test_at_nothing(self):
        for left in LEFTS:
            self.assertEqual(begin(STORE, "00.1", left), ("nothing", "00.1"))

    def test_no_pattern_then_unlike(self):
        for x, at in [("", 0), ("11.", 3), ("1*.1", 1), ("1.1.1.1", 5)] + [(x, 0) for x in NO_TEXTS]:
            for call in (lambda: begin(STORE, x, 1), lambda: follow(STORE, DRIVER, x, 1, [("done",), None])):
                with self.assertRaises(NoPattern) as caught:
                    call()
                self.assertEqual(caught.exception.at, at)
        for x in ["1", "11", "111", "1.11", "11.11", "11.1.1"]:
            with self.assertRaises(Unlike):
                begin(STORE, x, None)
            with self.assertRaises(Unlike):
                follow(STORE, DRIVER, x, None, [None])


class MovesTest(unittest.TestCase):
    def test_at_rest_without_a_quiet_row(self):
        for left in (None, 1, 2, HUGE):
            self.assertEqual(moves(STORE, DRIVER, ("rest", "11.0", left)), [("ask", "b"), ("ask", "c")])
            self.assertEqual(moves(STORE, DRIVER, ("rest", "01.0", left)), [("ask", "a")])
            self.assertEqual(moves(STORE, DRIVER, ("rest", "00.0", left)), [])
        for x in ("11.0", "01.0", "00.0"):
            self.assertEqual(moves(STORE, DRIVER, ("rest", x, 0)), [])

    def test_at_rest_with_a_quiet_row(self):
        for left in LEFTS:
            self.assertEqual(moves(STORE, DRIVER, ("rest", "10.0", left)), [("done",), ("cut", "10.0"), ("cut", "10.1")])

    def test_a_quiet_row_that_does_not_apply(self):
        driver = Driver(STORE, [("10.*", "", ("erase", 1))])
        self.assertEqual(moves(STORE, driver, ("rest", "10.1", 1)), [("ask", "b"), ("ask", "c")])
        self.assertEqual(moves(STORE, driver, ("rest", "11.1", 0)), [])

    def test_busy(self):
        for left in (None, 1, 5, HUGE):
            self.assertEqual(moves(STORE, DRIVER, ("busy", "11.0", "b", left)),
                             [("done",), ("cut", "01.0"), ("cut", "11.0")])
            self.assertEqual(moves(STORE, DRIVER, ("busy", "11.1", "c", left)),
                             [("done",)] + [("cut", z) for z in texts_of((2, 1))])
            self.assertEqual(moves(STORE, DRIVER, ("busy", "10.1", "c", left)),
                             [("done",)] + [("cut", z) for z in ("00.0", "00.1", "10.0", "10.1")])
            self.assertEqual(moves(STORE, DRIVER, ("busy", "01.1", "a", left)),
                             [("done",), ("cut", "01.1"), ("cut", "11.1")])

    def test_busy_where_a_quiet_row_applies(self):
        driver = Driver(STORE, ROWS[:1] + [("10.0", "b", ("fall", (0,)))])
        self.assertEqual(moves(STORE, driver, ("busy", "10.0", "b", 1)), [("done",), ("cut", "00.0"), ("cut", "10.0")])

    def test_an_erase_of_several_bits(self):
        driver = Driver(STORE, [("00.*", "b", ("erase", 0))])
        self.assertEqual(moves(STORE, driver, ("busy", "00.0", "b", 3)),
                         [("done",)] + [("cut", z) for z in ("00.0", "01.0", "10.0", "11.0")])

    def test_nothing_comes_after_a_fault(self):
        for fault in (("nothing", "00.1"), ("third", "10.0", "a"), ("strand", "10.0", "b")):
            self.assertEqual(moves(STORE, DRIVER, fault), [])
            for event in (("done",), ("ask", "b"), ("cut", "10.0")):
                with self.assertRaises(NoEvent) as caught:
                    after(STORE, DRIVER, fault, event)
                self.assertEqual(caught.exception.at, 0)

    def test_each_list_is_new(self):
        for stand in (("rest", "11.0", 1), ("rest", "10.0", 0), ("busy", "11.1", "c", None)):
            first = moves(STORE, DRIVER, stand)
            kept = list(first)
            first.clear()
            self.assertEqual(moves(STORE, DRIVER, stand), kept)


class AfterTest(unittest.TestCase):
    def check(self, rows, cases):
        driver = Driver(STORE, rows)
        for stand, event, led in cases:
            self.assertEqual(after(STORE, driver, stand, event), led, (stand, event))
            self.assertEqual(after(STORE, driver, stand, event), led, (stand, event))

    def test_asks(self):
        self.check(ROWS, [
            (("rest", "11.0", None), ("ask", "b"), ("busy", "11.0", "b", None)),
            (("rest", "11.0", 1), ("ask", "c"), ("busy", "11.0", "c", 1)),
            (("rest", "11.0", HUGE), ("ask", "b"), ("busy", "11.0", "b", HUGE)),
        ])

    def test_asks_that_strand(self):
        rows = [("11.1", "b", ("fall", (0,))), ("01.*", "a", ("erase", 1))]
        self.check(rows, [
            (("rest", "11.0", 1), ("ask", "b"), ("strand", "11.0", "b")),
            (("rest", "11.1", None), ("ask", "c"), ("strand", "11.1", "c")),
            (("rest", "01.1", 2), ("ask", "a"), ("strand", "01.1", "a")),
            (("rest", "01.0", 2), ("ask", "a"), ("busy", "01.0", "a", 2)),
        ])

    def test_quiet_writes(self):
        self.check(ROWS, [
            (("rest", "10.0", left), event, ("rest", z, left)) for left in LEFTS
            for event, z in [(("done",), "10.1"), (("cut", "10.0"), "10.0"), (("cut", "10.1"), "10.1")]])

    def test_quiet_writes_that_fail(self):
        rows = [("11.1", "", ("fall", (0, 1))), ("11.0", "", ("fall", (0,))), ("10.*", "", ("fall", (0,)))]
        self.check(rows, [
            (("rest", "11.1", 1), ("done",), ("nothing", "00.1")),
            (("rest", "11.1", 1), ("cut", "00.1"), ("nothing", "00.1")),
            (("rest", "11.1", 1), ("cut", "01.1"), ("third", "01.1", "b")),
            (("rest", "11.1", 1), ("cut", "10.1"), ("rest", "10.1", 1)),
            (("rest", "11.0", None), ("done",), ("third", "01.0", "b")),
            (("rest", "10.0", 0), ("done",), ("third", "00.0", "c")),
            (("rest", "10.0", 0), ("cut", "10.0"), ("rest", "10.0", 0)),
        ])

    def test_a_quiet_write_must_keep_the_state_even_if_it_leads_to_a_target(self):
        self.check([("11.*", "", ("fall", (0,)))], [
            (("rest", "11.0", None), ("done",), ("third", "01.0", "b")),
            (("rest", "11.0", None), ("cut", "01.0"), ("third", "01.0", "b")),
        ])

    def test_a_change_that_is_done_counts(self):
        for left, less in ((None, None), (1, 0), (2, 1), (HUGE, HUGE - 1)):
            self.check(ROWS, [
                (("busy", "11.0", "b", left), ("done",), ("rest", "01.0", less)),
                (("busy", "11.0", "b", left), ("cut", "01.0"), ("rest", "01.0", less)),
                (("busy", "01.1", "a", left), ("done",), ("rest", "11.1", less)),
                (("busy", "10.1", "c", left), ("cut", "00.0"), ("rest", "00.0", less)),
            ])

    def test_a_cut_that_leaves_the_old_state_makes_the_change_forgotten(self):
        for left in (None, 1, 2, HUGE):
            self.check(ROWS, [
                (("busy", "11.0", "b", left), ("cut", "11.0"), ("rest", "11.0", left)),
                (("busy", "11.1", "c", left), ("cut", "10.0"), ("rest", "10.0", left)),
                (("busy", "10.1", "b", left), ("cut", "10.0"), ("rest", "10.0", left)),
            ])

    def test_a_change_that_goes_on(self):
        rows = [("11.*", "b", ("fall", (1,))), ("10.*", "b", ("fall", (0,))), ("11.*", "c", ("fall", (1,)))]
        for left in (None, 1, HUGE):
            self.check(rows, [
                (("busy", "11.0", "b", left), ("done",), ("busy", "10.0", "b", left)),
                (("busy", "11.0", "c", left), ("done",), ("strand", "10.0", "c")),
                (("busy", "11.0", "c", left), ("cut", "10.0"), ("rest", "10.0", left)),
            ])

    def test_a_change_that_fails(self):
        for left in (None, 1, HUGE):
            self.check(ROWS, [
                (("busy", "11.1", "c", left), ("cut", "01.0"), ("third", "01.0", "b")),
                (("busy", "11.1", "c", left), ("cut", "01.1"), ("third", "01.1", "b")),
                (("busy", "11.1", "c", left), ("cut", "00.1"), ("nothing", "00.1")),
            ])
            self.check([("1*.*", "b", ("fall", (0,)))], [
                (("busy", "10.1", "b", left), ("done",), ("nothing", "00.1")),
                (("busy", "10.0", "b", left), ("done",), ("third", "00.0", "c")),
                (("busy", "10.0", "b", left), ("cut", "00.0"), ("third", "00.0", "c")),
            ])

    def test_events_that_cannot_come(self):
        cases = [
            (("rest", "11.0", 1), [("done",), ("cut", "11.0"), ("ask", "a"), ("ask", "x"), ("ask", ""), ("ask",),
                                   ["ask", "b"], ("ask", "b", 1), ("ask", ["b"]), ("ask", None), "ask", ("ask b",)]),
            (("rest", "11.0", 0), [("ask", "b"), ("ask", "c"), ("done",)]),
            (("rest", "00.0", 3), [("ask", "a"), ("ask", "c")]),
            (("rest", "10.0", 1), [("ask", "b"), ("cut", "11.0"), ("cut", "10.00"), ("cut", "100"), ["done"], ("done", 1),
                                   ["cut", "10.0"], ("cut",), ("cut", None), ("cut", ("10.0",)), ("cut", "10.0", 1)]),
            (("busy", "11.0", "b", 1), [("ask", "b"), ("cut", "11.1"), ("cut", "10.0"), ["done"], ("cut", ["11.0"]),
                                        ("DONE",), ("cut", "01.0 "), ("done", "done")]),
        ]
        for stand, events in cases:
            for event in events + ODD_THINGS:
                with self.assertRaises(NoEvent) as caught:
                    after(STORE, DRIVER, stand, event)
                self.assertEqual(caught.exception.at, 0)

    def test_many_runs_against_the_words(self):
        for store, driver, start in some_runs(1, 150, [(2,), (1, 1), (3,), (2, 1), (1, 1, 1)]):
            for left in (None, 0, 2):
                for stand in stands_from(store, driver, start, left):
                    events = events_at(store, driver, stand)
                    self.assertEqual(moves(store, driver, stand), events)
                    for event in events:
                        self.assertEqual(after(store, driver, stand, event), led_to(store, driver, stand, event))


class FollowTest(unittest.TestCase):
    def no_event(self, at, x, left, events, driver=DRIVER):
        kept = list(events)
        with self.assertRaises(NoEvent) as caught:
            follow(STORE, driver, x, left, events)
        self.assertEqual((caught.exception.at, events), (at, kept))

    def test_no_events(self):
        self.assertEqual(follow(STORE, DRIVER, "11.0", 3, []), [("rest", "11.0", 3)])
        self.assertEqual(follow(STORE, DRIVER, "11.0", None, []), [("rest", "11.0", None)])
        self.assertEqual(follow(STORE, DRIVER, "00.1", 3, []), [("nothing", "00.1")])

    def test_some_events(self):
        events = [("ask", "b"), ("cut", "11.1"), ("ask", "b"), ("done",), ("ask", "a"), ("cut", "11.1"), ("ask", "c"),
                  ("cut", "10.0"), ("done",)]
        stands = [("rest", "11.1", 3), ("busy", "11.1", "b", 3), ("rest", "11.1", 3), ("busy", "11.1", "b", 3),
                  ("rest", "01.1", 2), ("busy", "01.1", "a", 2), ("rest", "11.1", 1), ("busy", "11.1", "c", 1),
                  ("rest", "10.0", 1), ("rest", "10.1", 1)]
        for many in range(len(events) + 1):
            self.assertEqual(follow(STORE, DRIVER, "11.1", 3, events[:many]), stands[:many + 1])

    def test_a_fault_at_the_end(self):
        for events, last in [([("ask", "c"), ("cut", "01.0")], ("third", "01.0", "b")),
                             ([("ask", "c"), ("cut", "00.1")], ("nothing", "00.1"))]:
            stands = follow(STORE, DRIVER, "11.1", 1, events)
            self.assertEqual(stands, [("rest", "11.1", 1), ("busy", "11.1", "c", 1), last])
            for event in (("done",), ("ask", "b"), ("cut", "01.0"), ("cut", "00.1"), None):
                self.no_event(2, "11.1", 1, events + [event])
                self.no_event(2, "11.1", 1, events + [event, ("done",)])
        driver = Driver(STORE, [])
        self.assertEqual(follow(STORE, driver, "01.0", None, [("ask", "a")])[-1], ("strand", "01.0", "a"))
        self.no_event(1, "01.0", None, [("ask", "a"), ("ask", "a")], driver)

    def test_a_fault_at_the_start(self):
        for event in (("done",), ("ask", "b"), ("cut", "00.1"), None, []):
            self.no_event(0, "00.1", 1, [event])
            self.no_event(0, "00.1", 1, [event, ("done",)])

    def test_events_that_cannot_come(self):
        events = [("ask", "b"), ("done",), ("ask", "a"), ("done",)]
        for at in range(4):
            for wrong in ODD_THINGS + [list(events[at]), ("cut", "00.1"), ("ask", "x"), ("done", ""), events[at - 1]]:
                self.no_event(at, "11.0", 2, events[:at] + [wrong] + events[at:])
        self.no_event(4, "11.0", 2, events + [("ask", "b")])
        self.assertEqual(follow(STORE, DRIVER, "11.0", 3, events + [("ask", "b")])[-1], ("busy", "11.0", "b", 1))

    def test_the_same_answer_again(self):
        events = [("ask", "b"), ("done",)]
        first = follow(STORE, DRIVER, "11.0", None, events)
        kept = list(first)
        first.clear()
        self.assertEqual(follow(STORE, DRIVER, "11.0", None, events), kept)
        self.assertEqual(events, [("ask", "b"), ("done",)])

    def test_all_short_stories_against_the_words(self):
        for store, driver, start in some_runs(2, 40, [(2,), (1, 1)], rows=5):
            words = [("done",)] + [("ask", t) for t in store.states] + [("cut", z) for z in store.patterns()]
            for events in itertools.product(words, repeat=2):
                stands, at = [("rest", start, 1)], None
                for number, event in enumerate(events):
                    if event not in events_at(store, driver, stands[-1]):
                        at = number
                        break
                    stands.append(led_to(store, driver, stands[-1], event))
                if at is None:
                    self.assertEqual(follow(store, driver, start, 1, list(events)), stands)
                else:
                    with self.assertRaises(NoEvent) as caught:
                        follow(store, driver, start, 1, list(events))
                    self.assertEqual(caught.exception.at, at)


if __name__ == "__main__":
    unittest.main()
