"""Tests of fallenbits.closed: points 23 and 2."""

import itertools
import unittest

from fallenbits.closed import is_closed, shows
from fallenbits.drivers import Driver
from fallenbits.errors import NoPattern, Unlike
from fallenbits.judge import judge
from fallenbits.stores import Store
from tests.runs import events_at, led_to, some_runs
from tests.samples import NO_LISTS, NO_NUMBERS, NO_TEXTS, ODD_THINGS, texts_of

STORE = Store([2], [("11", "a"), ("01", "a"), ("10", "c"), ("00", "b")], [("a", "b"), ("b", "a")])
STEADY = Driver(STORE, [("11", "b", ("fall", (0,))), ("01", "b", ("fall", (1,)))])
TABLE = judge(STORE, STEADY, "11", 1)[1]

# Two blocks of one bit: a change for ever, with a quiet write; 0.0 reads nothing.
PAIR = Store([1, 1], [("1.1", "a"), ("0.1", "b"), ("1.0", "b")], [("a", "b"), ("b", "a")])
TURN = Driver(PAIR, [("1.1", "b", ("fall", (0,))), ("0.1", "a", ("erase", 0)), ("1.0", "a", ("erase", 1))])
EVER = judge(PAIR, TURN, "1.1")[1]

HUGE = 10 ** 60
DEEP = []
for _ in range(50):
    DEEP = [DEEP]
ANYTHING = ODD_THINGS + [DEEP, [DEEP], (DEEP,), HUGE, "x" * 6000, [None] * 2000, [("done",)] * 2, {"closed": []}]


class TableCase(unittest.TestCase):
    def right(self, thing, changes=1, store=STORE, driver=STEADY, start="11"):
        self.assertIs(is_closed(store, driver, start, changes, thing), True)

    def wrong(self, thing, changes=1, store=STORE, driver=STEADY, start="11"):
        self.assertIs(is_closed(store, driver, start, changes, thing), False, thing)

    def wrong_row(self, row, changes=1, table=TABLE, store=STORE, driver=STEADY, start="11"):
        """Look that a table that holds holds no longer with one more row, wherever it stands."""
        for at in (0, len(table) // 2, len(table)):
            self.wrong(table[:at] + [row] + table[at:], changes, store, driver, start)


class RightTableTest(TableCase):
    def test_what_judge_tells(self):
        self.right(TABLE)
        self.right(EVER, None, PAIR, TURN, "1.1")
        for changes in range(8):
            self.right(judge(PAIR, TURN, "1.1", changes)[1], changes, PAIR, TURN, "1.1")
        self.right([(("rest", "10", 3), 0)], 3, STORE, STEADY, "10")

    def test_in_another_order(self):
        for rows in itertools.permutations(TABLE):
            self.right(list(rows))

    def test_greater_distances(self):
        self.right([(("busy", "01", "b", 1), 4), (("busy", "11", "b", 1), 9), (("rest", "00", 0), 3),
                    (("rest", "01", 1), 7), (("rest", "11", 1), 0)])
        self.right([(stand, distance * HUGE + HUGE) for stand, distance in TABLE])
        self.right([(stand, distance + 1) for stand, distance in EVER], None, PAIR, TURN, "1.1")

    def test_further_rows(self):
        for stand in (("rest", "11", 0), ("rest", "01", 0), ("rest", "10", 1), ("rest", "10", 0)):
            self.right(TABLE + [(stand, 0)])
            self.right([(stand, 5)] + TABLE)
        # At 1.0 the driver goes to 1.1; from 1.1 it never comes there.
        further = [(("rest", "1.0", None), 0), (("busy", "1.0", "a", None), 1)]
        self.right(EVER + further, None, PAIR, TURN, "1.1")
        self.wrong(EVER + further[:1], None, PAIR, TURN, "1.1")
        self.wrong(EVER + further[1:], None, PAIR, TURN, "1.1")

    def test_quiet_writes(self):
        store = Store([2], [("1*", "a"), ("01", "a")], [("b", "a")])
        driver = Driver(store, [("11", "", ("fall", (0,)))])
        table = [(("rest", "01", 0), 0), (("rest", "11", 0), 1)]
        self.right(table, 0, store, driver)
        self.right(table[::-1], 0, store, driver)
        self.wrong(table[:1], 0, store, driver)
        self.wrong(table[1:], 0, store, driver)
        self.wrong([(("rest", "01", 0), 1), (("rest", "11", 0), 1)], 0, store, driver)


class WrongTableTest(TableCase):
    def test_anything(self):
        for thing in ANYTHING + [tuple(TABLE), dict(TABLE), [TABLE], (TABLE,), "closed", ("closed", TABLE)]:
            self.wrong(thing)
            self.wrong(thing, None, PAIR, TURN, "1.1")
            self.wrong(thing, 0, PAIR, TURN, "1.1")

    def test_any_row(self):
        for row in ANYTHING + [(TABLE[0],), list(TABLE[0]), TABLE[0] + (0,), (TABLE[0][1], TABLE[0][0]), TABLE[0][0]]:
            self.wrong_row(row)
            self.wrong_row((row, 0))

    def test_a_row_that_lacks(self):
        for at in range(len(TABLE)):
            self.wrong(TABLE[:at] + TABLE[at + 1:])
        for at in range(len(EVER)):
            self.wrong(EVER[:at] + EVER[at + 1:], None, PAIR, TURN, "1.1")

    def test_the_start_left_out(self):
        # The other rows hold by themselves.
        rest = [row for row in TABLE if row[0][1] != "11"]
        self.wrong(rest)
        self.right(rest, start="01")
        self.wrong([])
        self.wrong([(("rest", "00", 0), 0)], 0)
        self.right([(("rest", "00", 0), 0)], 0, start="00")

    def test_a_stand_twice(self):
        for stand, distance in TABLE:
            for other in (distance, distance + 1, 0):
                self.wrong_row((stand, other))

    def test_lists_in_the_place_of_tuples(self):
        for at, (stand, distance) in enumerate(TABLE):
            for row in ([stand, distance], (list(stand), distance)):
                self.wrong(TABLE[:at] + [row] + TABLE[at + 1:])

    def test_patterns_of_stands(self):
        for x in NO_TEXTS + ["", "1", "111", "1.1", "1x", "**", "11 ", "11\n"]:
            self.wrong_row((("rest", x, 0), 0))
            self.wrong_row((("busy", x, "b", 1), 5))
        # 0.0 reads nothing.
        for changes, table in ((None, EVER), (2, judge(PAIR, TURN, "1.1", 2)[1])):
            for stand in (("rest", "0.0", changes), ("busy", "0.0", "a", changes), ("busy", "0.0", "b", changes)):
                self.wrong_row((stand, 0), changes, table, PAIR, TURN, "1.1")

    def test_what_is_left(self):
        for left in NO_NUMBERS + [2, 3, -1, HUGE, -HUGE, "0", "1"]:
            self.wrong_row((("rest", "10", left), 0))
            self.wrong_row((("rest", "11", left), 0))
        for left in [0, 1, 7] + [thing for thing in NO_NUMBERS if thing is not None]:
            self.wrong_row((("rest", "1.0", left), 0), None, EVER, PAIR, TURN, "1.1")
            self.wrong([(stand[:-1] + (left,), distance) for stand, distance in EVER], None, PAIR, TURN, "1.1")
        self.wrong([(stand[:-1] + (None,), distance) for stand, distance in TABLE])
        self.wrong(TABLE, None)
        self.wrong(TABLE, 0)
        self.wrong(TABLE, 2)
        self.wrong(EVER, 7, PAIR, TURN, "1.1")

    def test_truths_in_the_place_of_numbers(self):
        for at, (stand, distance) in enumerate(TABLE):
            if stand[-1] in (0, 1):
                self.wrong(TABLE[:at] + [(stand[:-1] + (stand[-1] == 1,), distance)] + TABLE[at + 1:])
            if distance in (0, 1):
                self.wrong(TABLE[:at] + [(stand, distance == 1)] + TABLE[at + 1:])

    def test_busy_stands(self):
        for stand in (("busy", "11", "b", 0), ("busy", "01", "b", 0), ("busy", "11", "a", 1), ("busy", "11", "c", 1),
                      ("busy", "11", "x", 1), ("busy", "11", "", 1), ("busy", "00", "a", 1), ("busy", "10", "a", 1),
                      ("busy", "11", None, 1), ("busy", "11", ["b"], 1), ("busy", "11", ("b",), 1), ("busy", "11", "b", True),
                      ("busy", "11", "b"), ("busy", "11", 1), ("busy", "11", "b", 1, 1), ("rest", "11", "b", 1),
                      ("strand", "11", "b"), ("strand", "11", "b", 1), ("nothing", "11"), ("third", "11", "a"), ("rest",),
                      ("rest", "11"), ("busy", "11"), ("Rest", "10", 0), ("", "10", 0), (None, "10", 0), (["rest"], "10", 0)):
            self.wrong_row((stand, 0))
            self.wrong_row((stand, 7))

    def test_no_write_of_the_driver(self):
        # The row of 1.0 is left out: asked there, the driver strands.
        driver = Driver(PAIR, TURN.rows()[:2])
        self.right(EVER, None, PAIR, driver, "1.1")
        self.wrong_row((("busy", "1.0", "a", None), 5), None, EVER, PAIR, driver, "1.1")
        self.wrong(EVER + [(("rest", "1.0", None), 0), (("busy", "1.0", "a", None), 5)], None, PAIR, driver, "1.1")

    def test_distances(self):
        for distance in NO_NUMBERS + [-1, -HUGE]:
            for at, (stand, _) in enumerate(TABLE):
                self.wrong(TABLE[:at] + [(stand, distance)] + TABLE[at + 1:])
            self.wrong_row((("rest", "10", 0), distance))

    def test_a_distance_that_does_not_fall(self):
        self.wrong([(("busy", "01", "b", 1), 2), (("busy", "11", "b", 1), 2), (("rest", "00", 0), 0),
                    (("rest", "01", 1), 0), (("rest", "11", 1), 0)])
        self.wrong([(("busy", "01", "b", 1), 1), (("busy", "11", "b", 1), 2), (("rest", "00", 0), 1),
                    (("rest", "01", 1), 0), (("rest", "11", 1), 0)])
        # Asks and cuts may lead to any distance.
        self.right([(("busy", "01", "b", 1), 1), (("busy", "11", "b", 1), 2), (("rest", "00", 0), 0),
                    (("rest", "01", 1), 9), (("rest", "11", 1), 9)])

    def test_an_event_that_leads_out_of_the_list_or_to_a_fault(self):
        # With 2 left, b can be asked, and then a, for which there is no row.
        rows = [(("busy", "01", "b", 2), 1), (("busy", "11", "b", 2), 2), (("rest", "00", 1), 0), (("rest", "01", 2), 0),
                (("rest", "11", 2), 0)]
        self.wrong(rows, 2)
        self.wrong(rows + [(("busy", "00", "a", 1), 1)], 2)
        self.wrong(rows + [(("strand", "00", "a"), 0)], 2)
        third = Driver(STORE, [("1*", "b", ("fall", (0, 1))), ("01", "b", ("fall", (1,)))])
        self.wrong(TABLE, 1, STORE, third)

    def test_a_ring_has_no_distances(self):
        loop = Driver(STORE, [("11", "", ("fall", (0,))), ("01", "", ("erase", 0))])
        for one, other in itertools.product(range(4), repeat=2):
            self.wrong([(("rest", "11", 0), one), (("rest", "01", 0), other)], 0, STORE, loop)

    def test_a_start_that_reads_nothing(self):
        for thing in [EVER, [], [(("rest", "0.0", None), 0)], [(("nothing", "0.0"), 0)]] + ANYTHING:
            self.wrong(thing, None, PAIR, TURN, "0.0")

    def test_many_other_tables(self):
        for store, driver, start in some_runs(7, 200, [(2,), (1, 1), (3,)], names=("a", "b"), gap=0.05):
            for changes in (None, 0, 1):
                kind, rows = judge(store, driver, start, changes)
                if kind != "closed":
                    self.wrong(rows, changes, store, driver, start)
                    continue
                self.right(rows, changes, store, driver, start)
                for at in range(len(rows)):
                    self.wrong(rows[:at] + rows[at + 1:], changes, store, driver, start)
                    if rows[at][1] > 0:
                        lesser = rows[:at] + [(rows[at][0], rows[at][1] - 1)] + rows[at + 1:]
                        self.wrong(lesser, changes, store, driver, start)


class ErrorsTest(unittest.TestCase):
    def test_no_pattern_then_unlike(self):
        for start, at in [("", 0), ("1.", 2), ("1.12", 3), ("*.1", 0)] + [(x, 0) for x in NO_TEXTS]:
            for call in (lambda: is_closed(PAIR, TURN, start, None, None), lambda: shows(PAIR, TURN, start, 1, None, None),
                         lambda: is_closed(PAIR, TURN, start, 1, EVER), lambda: shows(PAIR, TURN, start, 1, "nothing", [])):
                with self.assertRaises(NoPattern) as caught:
                    call()
                self.assertEqual(caught.exception.at, at)
        for start in ("1", "11", "1.11", "11.1", "1.1.1"):
            for call in (lambda: is_closed(PAIR, TURN, start, None, None), lambda: shows(PAIR, TURN, start, 1, None, None)):
                with self.assertRaises(Unlike):
                    call()


class ShowsCase(unittest.TestCase):
    def check(self, right, kind, events, store=STORE, driver=STEADY, start="11", changes=2):
        self.assertIs(shows(store, driver, start, changes, kind, events), right, (kind, events))


class ShowsTest(ShowsCase):
    STRAND = [("ask", "b"), ("done",), ("done",), ("ask", "a")]
    LOOP = Driver(STORE, [("11", "", ("fall", (0,))), ("01", "", ("erase", 0))])
    BUSY = Driver(STORE, [("11", "b", ("fall", (0,))), ("01", "b", ("erase", 0))])
    BOTH = Driver(STORE, [("1*", "b", ("fall", (0, 1)))])

    def test_worked_by_hand(self):
        self.check(True, "strand", [("ask", "b"), ("cut", "01"), ("ask", "b"), ("done",), ("ask", "a")])

    def test_strand(self):
        self.check(True, "strand", self.STRAND)
        self.check(True, "strand", self.STRAND, changes=None)
        self.check(True, "strand", self.STRAND, changes=7)
        self.check(False, "strand", self.STRAND, changes=1)
        self.check(False, "strand", self.STRAND, changes=0)
        for kind in ("nothing", "third", "ring", "closed", "Strand", "strand "):
            self.check(False, kind, self.STRAND)
        for many in range(4):
            self.check(False, "strand", self.STRAND[:many])
            self.check(False, "ring", self.STRAND[:many])
        self.check(True, "strand", [("ask", "b")], driver=Driver(STORE, []))

    def test_a_strand_behind_done(self):
        driver = Driver(STORE, STEADY.rows()[:1])
        self.check(True, "strand", [("ask", "b"), ("done",)], driver=driver)
        self.check(False, "strand", [("ask", "b"), ("cut", "01")], driver=driver)
        self.check(True, "strand", [("ask", "b"), ("cut", "01"), ("ask", "b")], driver=driver)

    def test_third(self):
        for changes in (None, 1, 7):
            self.check(True, "third", [("ask", "b"), ("cut", "10")], driver=self.BOTH, changes=changes)
        self.check(True, "third", [("ask", "b"), ("cut", "11")] * 3 + [("ask", "b"), ("cut", "10")], driver=self.BOTH)
        self.check(False, "nothing", [("ask", "b"), ("cut", "10")], driver=self.BOTH)
        self.check(False, "third", [("ask", "b"), ("cut", "01")], driver=self.BOTH)
        self.check(False, "third", [("ask", "b"), ("done",)], driver=self.BOTH)
        self.check(False, "third", [("cut", "10")], driver=self.BOTH)

    def test_nothing(self):
        store = Store([2], [("11", "a"), ("00", "b")], [("a", "b")])
        driver = Driver(store, [("11", "b", ("fall", (0, 1)))])
        for z in ("01", "10"):
            self.check(True, "nothing", [("ask", "b"), ("cut", z)], store, driver)
            self.check(True, "nothing", [("ask", "b"), ("cut", "11"), ("ask", "b"), ("cut", z)], store, driver)
            self.check(False, "third", [("ask", "b"), ("cut", z)], store, driver)
        self.check(False, "nothing", [], store, driver)
        self.check(False, "nothing", [("ask", "b")], store, driver)
        self.check(False, "nothing", [("ask", "b"), ("done",)], store, driver)
        self.check(False, "nothing", [("ask", "b"), ("cut", "00")], store, driver)

    def test_a_ring(self):
        for changes in (None, 0, 1, 7):
            for many in range(2, 9):
                self.check(True, "ring", [("done",)] * many, driver=self.LOOP, changes=changes)
            self.check(True, "ring", [("cut", "01"), ("done",), ("done",)], driver=self.LOOP, changes=changes)
            self.check(True, "ring", [("done",), ("cut", "11"), ("done",), ("done",)], driver=self.LOOP, changes=changes)
            for events in ([], [("done",)], [("cut", "11")], [("cut", "11"), ("done",)], [("done",), ("cut", "11")],
                           [("done",), ("done",), ("cut", "01")], [("done",), ("done",), ("cut", "01"), ("done",)],
                           [("done",), ("cut", "11"), ("done",)]):
                self.check(False, "ring", events, driver=self.LOOP, changes=changes)
        for kind in ("nothing", "third", "strand", "rest", "busy"):
            self.check(False, kind, [("done",), ("done",)], driver=self.LOOP)

    def test_a_ring_within_a_change(self):
        events = [("ask", "b"), ("done",), ("done",)]
        self.check(True, "ring", events, driver=self.BUSY)
        self.check(True, "ring", events + [("done",)], driver=self.BUSY)
        self.check(True, "ring", events + [("cut", "01"), ("ask", "b"), ("done",), ("done",)], driver=self.BUSY)
        self.check(False, "ring", events[:2], driver=self.BUSY)
        self.check(False, "ring", events[:1], driver=self.BUSY)
        self.check(False, "ring", events, driver=self.BUSY, changes=0)
        # Ask and cut lead back, too, but make no ring.
        self.check(False, "ring", [("ask", "b"), ("cut", "11")], driver=self.BUSY)
        self.check(False, "ring", events + [("cut", "11")], driver=self.BUSY)

    def test_a_ring_that_a_fault_follows(self):
        rows = [("11", "", ("fall", (0,))), ("01", "", ("erase", 0))]
        store = Store([2], [("11", "a"), ("01", "a"), ("00", "b")], [])
        driver = Driver(store, rows[:1] + [("01", "", ("fall", (1,)))])
        self.check(True, "third", [("done",), ("done",)], store, driver)
        self.check(False, "ring", [("done",), ("done",)], store, driver)

    def test_events_behind_a_fault(self):
        for event in (("done",), ("ask", "a"), ("cut", "00"), None):
            self.check(False, "strand", self.STRAND + [event])
            self.check(False, "strand", self.STRAND + [event] + self.STRAND)
        self.check(False, "strand", self.STRAND + self.STRAND[-1:])
        self.check(False, "third", [("ask", "b"), ("cut", "10"), ("ask", "b"), ("cut", "10")], driver=self.BOTH)

    def test_events_that_cannot_come(self):
        for at in range(4):
            for wrong in ANYTHING + [list(self.STRAND[at]), ("ask", "c"), ("cut", "10"), ("cut", "1"), ("done", ())]:
                self.check(False, "strand", self.STRAND[:at] + [wrong] + self.STRAND[at:])
                self.check(False, "strand", self.STRAND[:at] + [wrong] + self.STRAND[at + 1:])
        self.check(False, "ring", [["done"], ["done"]], driver=self.LOOP)
        self.check(False, "ring", [("done",), ["done"]], driver=self.LOOP)

    def test_no_list(self):
        for events in NO_LISTS + [tuple(self.STRAND), {("ask", "b"): 1}, "strand", DEEP]:
            for kind in ("strand", "ring", "nothing", "third", "closed", None):
                self.check(False, kind, events)
        self.check(False, "strand", tuple(self.STRAND))
        self.check(False, "ring", (("done",), ("done",)), driver=self.LOOP)

    def test_no_word(self):
        for kind in ANYTHING + ["rest", "busy", "closed", "Ring", "rings", ("ring",), ["strand"]]:
            self.check(False, kind, self.STRAND)
            self.check(False, kind, [("done",), ("done",)], driver=self.LOOP)
            self.check(False, kind, [])

    def test_anything(self):
        for kind, events in itertools.product(ANYTHING, repeat=2):
            self.check(False, kind, events)

    def test_long_lists(self):
        # "Any value" has no limit of length.
        self.check(True, "ring", [("done",)] * 4000, driver=self.LOOP)
        self.check(True, "ring", [("cut", "11")] * 4000 + [("done",)] * 2, driver=self.LOOP)
        self.check(True, "strand", [("ask", "b"), ("cut", "11")] * 2000 + self.STRAND)
        self.check(False, "strand", [("ask", "b"), ("cut", "11")] * 2000)

    def test_a_start_that_reads_nothing(self):
        for changes in (None, 0, 7):
            self.check(True, "nothing", [], PAIR, TURN, "0.0", changes)
            for kind in ["third", "strand", "ring", "closed", "", None, ["nothing"], ("nothing",)] + ANYTHING:
                self.check(False, kind, [], PAIR, TURN, "0.0", changes)
            for events in [(), None, {}, "", 0, False, [None], [("done",)], [("ask", "a")]] + [
                    thing for thing in ANYTHING if thing != []]:
                self.check(False, "nothing", events, PAIR, TURN, "0.0", changes)

    def test_what_was_passed_stays(self):
        events, table = list(self.STRAND), list(TABLE)
        self.check(True, "strand", events)
        is_closed(STORE, STEADY, "11", 1, table)
        self.assertEqual((events, table), (self.STRAND, TABLE))


def shown_by_words(store, driver, start, changes, kind, events):
    """Tell whether events show a kind by the words of point 23."""
    stands = [("rest", start, changes)]
    for event in events:
        if event not in events_at(store, driver, stands[-1]):
            return False
        stands.append(led_to(store, driver, stands[-1], event))
    if kind == "ring":
        return stands[-1][0] in ("rest", "busy") and any(
            events[-m:] == [("done",)] * m and stands[-1 - m] == stands[-1] for m in range(1, len(events) + 1))
    return stands[-1][0] == kind


class ManyTest(ShowsCase):
    def test_all_short_lists_against_the_words(self):
        right = {}
        for store, driver, start in some_runs(8, 60, [(2,), (1, 1)], names=("a", "b")):
            words = [("done",)] + [("ask", t) for t in store.states] + [("cut", z) for z in texts_of(store.sizes)]
            for many in range(4):
                for events in itertools.product(words, repeat=many):
                    for kind in ("nothing", "third", "strand", "ring"):
                        told = shown_by_words(store, driver, start, 1, kind, list(events))
                        self.check(told, kind, list(events), store, driver, start, 1)
                        right[(kind, told)] = right.get((kind, told), 0) + 1
        self.assertTrue(all(right.get((kind, True), 0) >= 5 for kind in ("nothing", "third", "strand", "ring")), right)


if __name__ == "__main__":
    unittest.main()
