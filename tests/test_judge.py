"""Tests of fallenbits.judge: points 20 to 22 and 2."""

import random
import unittest

from fallenbits.drivers import Driver
from fallenbits.errors import NoPattern, Unlike
from fallenbits.judge import judge
from fallenbits.stores import Store
from fallenbits.stories import follow
from tests.runs import distance_of, least_flaw, some_driver, some_runs, stands_from
from tests.samples import NO_TEXTS, texts_of

STORE = Store([2], [("11", "a"), ("01", "a"), ("10", "c"), ("00", "b")], [("a", "b"), ("b", "a")])
STEADY = Driver(STORE, [("11", "b", ("fall", (0,))), ("01", "b", ("fall", (1,)))])
LOOP = Driver(STORE, [("11", "", ("fall", (0,))), ("01", "", ("erase", 0))])

# Two blocks of one bit: what both say together.
PAIR = Store([1, 1], [("1.1", "a"), ("0.1", "b"), ("1.0", "b"), ("0.0", "c")], [("a", "b"), ("b", "a")])
TURN = Driver(PAIR, [("1.1", "b", ("fall", (0,))), ("0.1", "a", ("erase", 0))])


class JudgeCase(unittest.TestCase):
    def flaw(self, kind, length, store, driver, start, changes=None):
        found = judge(store, driver, start, changes)
        self.assertIsInstance(found, tuple)
        self.assertIsInstance(found[1], list)
        self.assertEqual((found[0], len(found[1])), (kind, length), found)
        self.shown(store, driver, start, changes, *found)
        return found[1]

    def shown(self, store, driver, start, changes, kind, events):
        """Look by the words of point 22 that events show a kind."""
        stands = follow(store, driver, start, changes, events)
        if kind == "ring":
            many = len(events)
            trails = [m for m in range(1, many + 1)
                      if events[-m:] == [("done",)] * m and stands[many - m] == stands[many]]
            self.assertTrue(trails and stands[-1][0] in ("rest", "busy"))
        else:
            self.assertEqual(stands[-1][0], kind)


class WorkedTest(JudgeCase):
    def test_worked_by_hand(self):
        self.assertEqual(judge(STORE, STEADY, "11", 1), (
            "closed", [(("busy", "01", "b", 1), 1), (("busy", "11", "b", 1), 2), (("rest", "00", 0), 0),
                       (("rest", "01", 1), 0), (("rest", "11", 1), 0)]))
        events = self.flaw("strand", 4, STORE, STEADY, "11", 2)
        self.assertIn(events, [[("ask", "b"), ("done",), ("done",), ("ask", "a")],
                               [("ask", "b"), ("done",), ("cut", "00"), ("ask", "a")]])
        self.assertEqual(judge(STORE, Driver(STORE, [("1*", "b", ("fall", (0, 1)))]), "11"),
                         ("third", [("ask", "b"), ("cut", "10")]))
        self.assertEqual(judge(STORE, LOOP, "11"), ("ring", [("done",), ("done",)]))
        self.assertEqual(judge(STORE, STEADY, "00", 0), ("closed", [(("rest", "00", 0), 0)]))

    def test_changes_may_be_left_out_or_named(self):
        self.assertEqual(judge(PAIR, TURN, "1.1"), judge(PAIR, TURN, "1.1", None))
        self.assertEqual(judge(PAIR, TURN, "1.1", changes=2), judge(PAIR, TURN, "1.1", 2))


class NothingTest(JudgeCase):
    def test_a_start_that_reads_nothing(self):
        store = Store([2], [("11", "a")], [("a", "b")])
        for rows in ([], [("**", "", ("fall", (0, 1)))], [("**", "b", ("erase", 0))]):
            for changes in (None, 0, 1, 7):
                for start in ("00", "01", "10"):
                    self.assertEqual(judge(store, Driver(store, rows), start, changes), ("nothing", []))
        empty = Store([1], [], [])
        self.assertEqual(judge(empty, Driver(empty, []), "1"), ("nothing", []))

    def test_no_pattern_then_unlike(self):
        for start, at in [("", 0), ("1.", 2), ("1.12", 3), ("*.1", 0)] + [(x, 0) for x in NO_TEXTS]:
            for changes in (None, 0, 7):
                with self.assertRaises(NoPattern) as caught:
                    judge(PAIR, TURN, start, changes)
                self.assertEqual(caught.exception.at, at)
        for start in ("1", "11", "1.11", "11.1", "1.1.1"):
            with self.assertRaises(Unlike):
                judge(PAIR, TURN, start)


class ClosedTest(JudgeCase):
    def closed(self, rows, store, driver, start, changes=None):
        self.assertEqual(judge(store, driver, start, changes), ("closed", rows))

    def test_for_ever(self):
        self.closed([(("busy", "0.1", "a", None), 1), (("busy", "1.1", "b", None), 1), (("rest", "0.1", None), 0),
                     (("rest", "1.1", None), 0)], PAIR, TURN, "1.1")

    def test_each_number_of_changes(self):
        for changes in range(8):
            # The stand "busy" at 1.1 comes with each number of changes that has been left there.
            firsts, seconds = list(range(changes, -1, -2))[::-1], list(range(changes - 1, -1, -2))[::-1]
            rows = [(("busy", "0.1", "a", left), 1) for left in seconds if left]
            rows += [(("busy", "1.1", "b", left), 1) for left in firsts if left]
            rows += [(("rest", "0.1", left), 0) for left in seconds] + [(("rest", "1.1", left), 0) for left in firsts]
            self.closed(rows, PAIR, TURN, "1.1", changes)

    def test_distances_count_the_quiet_writes_behind_a_change(self):
        store = Store([3], [("11*", "a"), ("10*", "b"), ("00*", "b")], [("a", "b")])
        driver = Driver(store, [("11*", "b", ("fall", (1,))), ("10*", "", ("fall", (0,))), ("00*", "", ("fall", (2,)))])
        self.closed([(("busy", "111", "b", 1), 3), (("rest", "000", 0), 0), (("rest", "001", 0), 1),
                     (("rest", "101", 0), 2), (("rest", "111", 1), 0)], store, driver, "111", 1)

    def test_quiet_writes_ahead_of_an_ask(self):
        rows = [("11", "", ("fall", (0,))), ("01", "b", ("fall", (1,)))]
        self.closed([(("busy", "01", "b", None), 1), (("rest", "00", None), 0), (("rest", "01", None), 0),
                     (("rest", "11", None), 1)],
                    Store([2], STORE.rules(), [("a", "b")]), Driver(STORE, rows), "11")

    def test_a_state_without_changes(self):
        for changes in (None, 0, 1, 7):
            self.closed([(("rest", "10", changes), 0)], STORE, STEADY, "10", changes)

    def test_no_changes_are_left(self):
        for driver in (STEADY, Driver(STORE, [])):
            self.closed([(("rest", "11", 0), 0)], STORE, driver, "11", 0)

    def test_ascending_with_names_that_begin_alike(self):
        names = ["a", "a-", "a0", "aa"]
        rules = [("11.11", "s"), ("01.11", "a"), ("10.11", "a-"), ("11.01", "a0"), ("11.10", "aa")]
        store = Store([2, 2], rules, [("s", name) for name in names[::-1]])
        driver = Driver(store, [("11.11", name, ("fall", (bit,))) for bit, name in enumerate(names)])
        found = judge(store, driver, "11.11", 1)
        self.assertEqual([stand[2] for stand, distance in found[1] if stand[0] == "busy"], names)
        self.assertEqual(found[1], sorted(found[1]))


class FlawTest(JudgeCase):
    def test_nothing(self):
        store = Store([2], [("11", "a"), ("00", "b")], [("a", "b")])
        both = Driver(store, [("11", "b", ("fall", (0, 1)))])
        one = Driver(store, [("11", "b", ("fall", (0,)))])
        for changes in (None, 1, 7):
            self.assertIn(self.flaw("nothing", 2, store, both, "11", changes),
                          [[("ask", "b"), ("cut", z)] for z in ("01", "10")])
            self.assertIn(self.flaw("nothing", 2, store, one, "11", changes),
                          [[("ask", "b"), ("done",)], [("ask", "b"), ("cut", "01")]])
        quiet = Driver(store, [("11", "", ("fall", (0, 1)))])
        self.flaw("nothing", 1, Store([2], [("11", "a")], []), quiet, "11", 0)

    def test_third(self):
        quiet = Driver(STORE, [("11", "", ("fall", (1,)))])
        for changes in (None, 0, 7):
            self.assertIn(self.flaw("third", 1, STORE, quiet, "11", changes), [[("done",)], [("cut", "10")]])
        late = Driver(STORE, [("11", "b", ("fall", (0,))), ("01", "b", ("fall", (1,))), ("00", "a", ("erase", 0))])
        events = self.flaw("third", 5, STORE, late, "11", 2)
        self.assertEqual(events[-1], ("cut", "10"))

    def test_strand(self):
        for changes in (None, 1, 7):
            self.assertEqual(self.flaw("strand", 1, STORE, Driver(STORE, []), "11", changes), [("ask", "b")])
        half = Driver(STORE, [("11", "b", ("fall", (0,)))])
        self.flaw("strand", 2, STORE, half, "11")
        self.assertEqual(judge(STORE, half, "00", 1), ("strand", [("ask", "a")]))

    def test_a_quiet_ring(self):
        for changes in (None, 0, 1, 7):
            self.assertEqual(self.flaw("ring", 2, STORE, LOOP, "11", changes), [("done",), ("done",)])
        longer = Driver(Store([2], [("**", "a")], []), [("11", "", ("fall", (0,))), ("01", "", ("fall", (1,))),
                                                       ("00", "", ("erase", 0))])
        self.assertEqual(self.flaw("ring", 3, Store([2], [("**", "a")], []), longer, "01", 0), [("done",)] * 3)

    def test_a_quiet_ring_when_no_change_is_left(self):
        # The ring is behind the last change.
        store = Store([2, 1], [("1*.*", "a"), ("0*.*", "b")], [("a", "b")])
        driver = Driver(store, [("1*.*", "b", ("fall", (0,))), ("0*.1", "", ("fall", (2,))), ("0*.0", "", ("erase", 1))])
        for changes in (None, 1, 7):
            self.flaw("ring", 4, store, driver, "11.1", changes)
        self.assertEqual(judge(store, driver, "11.1", 0), ("closed", [(("rest", "11.1", 0), 0)]))

    def test_a_ring_within_a_change(self):
        driver = Driver(STORE, [("11", "b", ("fall", (0,))), ("01", "b", ("erase", 0))])
        for changes in (None, 1, 7):
            self.assertEqual(self.flaw("ring", 3, STORE, driver, "11", changes), [("ask", "b"), ("done",), ("done",)])
        self.assertEqual(judge(STORE, driver, "11", 0)[0], "closed")

    def test_a_ring_that_begins_behind_other_writes(self):
        store = Store([3], [("1**", "a"), ("0**", "a")], [])
        driver = Driver(store, [("111", "", ("fall", (0,))), ("011", "", ("fall", (1,))), ("001", "", ("fall", (2,))),
                                ("000", "", ("erase", 0))])
        self.flaw("ring", 4, store, driver, "111", 0)
        driver = Driver(store, [("111", "", ("fall", (0,))), ("0**", "", ("fall", (1,))), ("00*", "", ("fall", (2,)))])
        self.assertEqual(judge(store, driver, "111", 0)[0], "closed")

    def test_cuts_and_asks_make_no_ring(self):
        # A cut may leave each pattern where it was, for ever.
        self.assertEqual(judge(PAIR, TURN, "1.1")[0], "closed")

    def test_a_ring_that_is_shorter_than_every_fault(self):
        store = Store([3], [("111", "a"), ("011", "a"), ("001", "a"), ("000", "b")], [("a", "b")])
        rows = [("111", "b", ("fall", (0,))), ("011", "b", ("erase", 0))]
        # The ring takes an ask and two writes; from 001, which does not come, all strands.
        self.flaw("ring", 3, store, Driver(store, rows), "111", 2)
        far = Store([3], [("1**", "a"), ("0**", "b")], [("a", "b"), ("b", "a")])
        ring = [("11*", "b", ("fall", (1,))), ("10*", "b", ("erase", 0))]
        self.flaw("ring", 3, far, Driver(far, ring), "111")

    def test_a_ring_although_a_fault_comes_a_little_later(self):
        # A cut at 011.1 or 101.1 leads to a quiet write and, behind it, to an ask for which no row is.
        store = Store([3, 1], [("***.*", "a")], [("a", "b")])
        rows = [("111.1", "", ("fall", (0, 1))), ("001.1", "", ("erase", 0)), ("***.1", "", ("fall", (3,)))]
        for changes in (None, 1, 7):
            self.assertEqual(least_flaw(store, Driver(store, rows), "111.1", changes), (2, {"ring"}))
            self.assertEqual(self.flaw("ring", 2, store, Driver(store, rows), "111.1", changes), [("done",)] * 2)
            self.assertEqual(self.flaw("strand", 2, store, Driver(store, rows), "011.1", changes), [("done",), ("ask", "b")])

    def test_the_ring_of_the_shortest_list_is_not_the_nearest_one(self):
        # From 1111.1 four writes lead back; a cut at 0111.1 leads to a ring of two writes.
        store = Store([4, 1], [("****.*", "a")], [])
        rows = [("1111.1", "", ("fall", (0, 1))), ("0011.1", "", ("fall", (2,))), ("0001.1", "", ("fall", (3,))),
                ("0000.1", "", ("erase", 0)), ("0111.1", "", ("fall", (4,))), ("0111.0", "", ("erase", 1))]
        for changes in (None, 0, 7):
            self.assertEqual(self.flaw("ring", 3, store, Driver(store, rows), "1111.1", changes),
                             [("cut", "0111.1"), ("done",), ("done",)])
        self.flaw("ring", 4, store, Driver(store, rows[:5]), "1111.1", 0)

    def test_a_fault_that_is_shorter_than_every_ring(self):
        rows = [("11", "b", ("fall", (0,))), ("01", "b", ("erase", 0)), ("00", "", ("erase", 0))]
        store = Store([2], [("11", "a"), ("01", "a"), ("00", "b")], [("a", "b"), ("a", "c")])
        self.flaw("strand", 1, store, Driver(store, rows), "11")
        self.flaw("ring", 3, Store([2], store.rules(), [("a", "b")]), Driver(store, rows), "11")

    def test_the_number_of_changes_decides(self):
        rows = [("11", "b", ("fall", (0,))), ("01", "b", ("fall", (1,))), ("00", "a", ("erase", 0))]
        driver = Driver(STORE, rows)
        self.assertEqual([judge(STORE, driver, "11", changes)[0] for changes in (0, 1, 2, 3, 7, None)],
                         ["closed", "closed", "third", "third", "third", "third"])


class ManyTest(JudgeCase):
    def look(self, store, driver, start, changes):
        found = judge(store, driver, start, changes)
        self.assertEqual(judge(store, driver, start, changes), found)
        least = least_flaw(store, driver, start, changes)
        if least is None:
            stands = stands_from(store, driver, start, changes)
            self.assertEqual(found[0], "closed")
            self.assertEqual(sorted(found[1]), found[1])
            self.assertEqual(len(found[1]), len(stands))
            self.assertEqual(dict(found[1]), {stand: distance_of(store, driver, stand) for stand in stands})
        else:
            self.assertEqual(len(found[1]), least[0])
            self.assertIn(found[0], least[1])
            self.shown(store, driver, start, changes, *found)
        return found[0]

    def test_a_second_search(self):
        kinds = {}
        for names, gap in ((("a", "b"), 0.05), (("a", "b", "c"), 0.1), (("a", "b"), 0.3)):
            for store, driver, start in some_runs(5, 250, [(2,), (1, 1), (3,), (2, 1)], names, gap):
                for changes in (None, 0, 1, 3):
                    kind = self.look(store, driver, start, changes)
                    kinds[kind] = kinds.get(kind, 0) + 1
        self.assertEqual(sorted(kinds), ["closed", "nothing", "ring", "strand", "third"])
        self.assertTrue(all(many >= 10 for many in kinds.values()), kinds)

    def test_a_second_search_with_rings(self):
        dice = random.Random(6)
        rings = 0
        for _ in range(150):
            store = Store([2, 1], [(x, "ab"[x[:2] == "00"]) for x in texts_of((2, 1))], [("a", "b")])
            driver = some_driver(dice, store, 9, quiet=0.3)
            for changes in (None, 0, 1):
                rings += self.look(store, driver, dice.choice(("11.1", "10.1", "11.0")), changes) == "ring"
        self.assertGreater(rings, 30)


class ArgumentsTest(JudgeCase):
    def test_each_list_is_new(self):
        for store, driver, start, changes in ((PAIR, TURN, "1.1", None), (STORE, STEADY, "11", 2), (STORE, LOOP, "11", 1)):
            found = judge(store, driver, start, changes)
            kept = (found[0], list(found[1]))
            found[1].clear()
            self.assertEqual(judge(store, driver, start, changes), kept)

    def test_store_and_driver_stay(self):
        rules, changes, rows = STORE.rules(), STORE.changes(), STEADY.rows()
        judge(STORE, STEADY, "11", 2)
        self.assertEqual((STORE.rules(), STORE.changes(), STEADY.rows()), (rules, changes, rows))


if __name__ == "__main__":
    unittest.main()
