"""Tests of fallenbits.worths: points 4, 24 to 27 and 2."""

import random
import unittest

from fallenbits.barred import is_barred, is_table
from fallenbits.drivers import Driver
from fallenbits.errors import NoPattern, Unlike
from fallenbits.judge import judge
from fallenbits.stores import Store
from fallenbits.worths import Worths, worths
from tests.levels import EVER, at_least, counted, distance, one_less, sets_hold, states_of, table_holds
from tests.runs import some_store
from tests.samples import NO_TEXTS, box_of, end_of, texts_of

STORE = Store([3], [("111", "a"), ("000", "b"), ("**0", "b")], [("a", "b"), ("b", "a")])
QUIET = Store([2], [("11", "a"), ("10", "a"), ("01", "b"), ("00", "c")],
              [("a", "b"), ("a", "c"), ("b", "a"), ("c", "a")])
# Each fall of a bit is a change, so the number of standing bits is the rank.
COUNT = Store([2, 2, 2], [(x, "ab"[x.count("1") % 2]) for x in texts_of((2, 2, 2))], [("a", "b"), ("b", "a")])
SHAPES = [((1,), 12), ((2,), 40), ((1, 1), 40), ((3,), 40), ((2, 1), 40), ((1, 1, 1), 25), ((4,), 8), ((2, 2), 8),
          ((1, 2, 1), 6), ((5,), 2), ((3, 3), 1), ((2, 2, 2), 1), ((6,), 1)]


def ranks_of(store, erases=True):
    found = worths(store, erases)
    return {x: found[x] for x in states_of(store)}


def some_stores(seed):
    """Yield stores of many shapes, made by dice with a seed."""
    dice = random.Random(seed)
    for sizes, many in SHAPES:
        for _ in range(many):
            names = dice.choice([("a", "b"), ("a", "b", "c"), ("a", "b", "c", "d")])
            yield some_store(dice, sizes, names, dice.choice([0, 0.1, 0.3]), dice.randint(0, 9))


class WorkedTest(unittest.TestCase):
    def test_without_erases(self):
        w = worths(STORE, erases=False)
        self.assertIsInstance(w, Worths)
        self.assertEqual([w["111"], w["110"], w["000"], w["011"]], [1, 0, 0, None])
        self.assertEqual(w.rows(), [("000", 0, ()), ("010", 0, ()), ("100", 0, ()), ("110", 0, ()),
                                    ("111", 1, (("b", ("fall", (2,)), 1),))])
        self.assertEqual(w.most(), 1)

    def test_with_erases(self):
        v = worths(STORE)
        self.assertEqual([v["111"], v["110"], v["100"], v["000"], v.most()], [EVER, EVER, 0, 0, EVER])
        self.assertEqual(v.rows()[3:], [("110", EVER, (("a", ("erase", 0), 1),)), ("111", EVER, (("b", ("fall", (2,)), 1),))])

    def test_a_failure_may_leave_a_pattern_from_which_another_change_is_asked(self):
        self.assertEqual([worths(QUIET, False)[x] for x in ("11", "10", "01", "00")], [0, 0, 0, 0])

    def test_erases_may_be_left_out_or_named(self):
        self.assertEqual(worths(STORE).rows(), worths(STORE, True).rows())
        self.assertEqual(worths(STORE, erases=False).rows(), worths(STORE, False).rows())


class RankTest(unittest.TestCase):
    def test_a_number(self):
        self.assertEqual(ranks_of(COUNT, False), {x: x.count("1") for x in texts_of((2, 2, 2))})
        self.assertEqual(worths(COUNT, False).most(), 6)

    def test_ever(self):
        self.assertEqual(ranks_of(COUNT), {x: EVER for x in texts_of((2, 2, 2))})

    def test_distances_of_several_writes(self):
        # One bit after the other falls; only the last one changes what is read.
        store = Store([3], [("1**", "a"), ("*1*", "a"), ("001", "a"), ("000", "b")], [("a", "b")])
        rows = {x: moves for x, rank, moves in worths(store, False).rows()}
        self.assertEqual({x: moves[0][2] for x, moves in rows.items() if moves},
                         {x: x.count("1") for x in texts_of((3,)) if "1" in x})
        self.assertEqual(rows["000"], ())

    def test_a_state_without_changes(self):
        store = Store([2], [("11", "a"), ("01", "b")], [("a", "b"), ("c", "a")])
        for erases in (True, False):
            self.assertEqual(ranks_of(store, erases), {"01": EVER, "11": EVER})
            self.assertEqual(worths(store, erases).rows()[0], ("01", EVER, ()))

    def test_a_target_that_no_pattern_reads(self):
        store = Store([2], [("1*", "a"), ("0*", "b")], [("a", "b"), ("b", "c")])
        for erases in (True, False):
            self.assertEqual(ranks_of(store, erases), {"00": 0, "01": 0, "10": 1, "11": 1})

    def test_one_bit(self):
        rules = [("1", "a"), ("0", "b")]
        for changes, erases, right in [([], True, [EVER, EVER]), ([("a", "b")], False, [EVER, EVER]),
                                       ([("b", "a")], False, [0, EVER]), ([("b", "a")], True, [EVER, EVER]),
                                       ([("a", "b"), ("b", "a")], False, [0, 1]),
                                       ([("a", "b"), ("b", "a")], True, [EVER, EVER]), ([("a", "c")], True, [EVER, 0])]:
            w = worths(Store([1], rules, changes), erases)
            self.assertEqual([w["0"], w["1"]], right, (changes, erases))

    def test_no_rules(self):
        for changes in ([], [("a", "b")]):
            for erases in (True, False):
                w = worths(Store([2, 1], [], changes), erases)
                self.assertEqual((w["11.1"], w.rows(), w.sets(), w.most(), w.best().rows()), (None, [], [], None, []))
                self.assertIs(w.survives("11.1", 0), False)

    def test_no_changes(self):
        for erases in (True, False):
            w = worths(Store([2, 1], [("**.*", "a")], []), erases)
            self.assertEqual(w.rows(), [(x, EVER, ()) for x in texts_of((2, 1))])
            self.assertEqual((w.sets(), w.most(), w.best().rows()), ([], None, []))

    def test_sixteen_changes(self):
        names = ["a", "b", "c", "d", "e"]
        changes = [(s, t) for s in names for t in names if s != t][:16]
        rules = [(x, names[k % 5]) for k, x in enumerate(texts_of((3, 3)))]
        for erases in (True, False):
            store = Store([3, 3], rules, changes)
            self.assertEqual(ranks_of(store, erases), counted(store, erases))

    def test_ranks_and_distances_by_the_words(self):
        many = {}
        for store in some_stores(11):
            for erases in (True, False):
                ranks = counted(store, erases)
                self.assertEqual(ranks_of(store, erases), ranks)
                for x, rank, moves in worths(store, erases).rows():
                    many[rank] = many.get(rank, 0) + 1
                    for t, write, told in moves:
                        self.assertEqual(told, distance(store, ranks, x, t, erases))
                        self.assertTrue(write[0] == "erase" or len(write[1]) == 1)
        self.assertTrue({0, 1, 2, 3, EVER} <= set(many), many)

    def test_a_further_pattern_and_a_further_change(self):
        # By point 26 ranks never fall if a further pattern reads a state, and never rise if a further change is allowed.
        dice = random.Random(12)
        for _ in range(40):
            store = some_store(dice, dice.choice([(3,), (2, 1)]), changes=4)
            rules, changes = store.rules(), store.changes()
            for erases in (True, False):
                ranks = ranks_of(store, erases)
                for at in range(len(rules)):
                    fewer = ranks_of(Store(list(store.sizes), rules[:at] + rules[at + 1:], changes), erases)
                    self.assertTrue(all(at_least(ranks[x], fewer[x]) for x in fewer))
                for at in range(len(changes)):
                    freer = ranks_of(Store(list(store.sizes), rules, changes[:at] + changes[at + 1:]), erases)
                    self.assertTrue(all(at_least(freer[x], ranks[x]) for x in ranks))


class TableTest(unittest.TestCase):
    def test_the_write_begins_a_row_of_the_least_length(self):
        for store in some_stores(13):
            for erases in (True, False):
                w = worths(store, erases)
                rows = w.rows()
                self.assertEqual([(x, rank) for x, rank, moves in rows], [(x, w[x]) for x in states_of(store)])
                self.assertTrue(is_table(store, rows, erases))
                self.assertTrue(table_holds(store, rows, erases))
                self.assertTrue(erases or all(write[0] == "fall" for _, _, moves in rows for _, write, _ in moves))
                told = {x: (rank, {t: many for t, _, many in moves}) for x, rank, moves in rows}
                for x, rank, moves in rows:
                    targets = store.targets(store.read(x))
                    self.assertEqual([t for t, _, _ in moves], targets if rank != 0 else [])
                    for t, write, many in moves:
                        after = end_of(x, write)
                        if many == 1:
                            self.assertEqual(store.read(after), t)
                        else:
                            self.assertEqual(store.read(after), store.read(x))
                            self.assertTrue(told[after][0] != rank or told[after][1][t] <= many - 1)
                        for z in box_of(x, after):
                            needed = rank if store.read(z) == store.read(x) else one_less(rank)
                            self.assertTrue(at_least(told[z][0], needed))

    def test_each_list_is_new(self):
        w = worths(STORE, False)
        rows, sets = w.rows(), w.sets()
        kept = (list(rows), list(sets))
        rows.clear()
        sets.clear()
        self.assertEqual((w.rows(), w.sets()), kept)
        self.assertEqual((worths(STORE, False).rows(), worths(STORE, False).sets()), kept)

    def test_the_store_stays(self):
        rules, changes = STORE.rules(), STORE.changes()
        worths(STORE).best()
        self.assertEqual((STORE.rules(), STORE.changes()), (rules, changes))


class SetsTest(unittest.TestCase):
    def test_each_pattern_of_a_number_stands_in_a_tuple(self):
        for store in some_stores(14):
            for erases in (True, False):
                w = worths(store, erases)
                sets = w.sets()
                self.assertTrue(sets_hold(store, sets, erases))
                self.assertTrue(is_barred(store, sets, erases))
                for x in states_of(store):
                    numbers = [k for k, s, t, members in sets if x in members]
                    self.assertEqual(w[x] == EVER, not numbers)
                    if numbers:
                        self.assertIn(w[x] + 1, numbers)
                        self.assertEqual(min(numbers), w[x] + 1)


class SurvivesTest(unittest.TestCase):
    def test_numbers(self):
        w = worths(COUNT, False)
        for x in ("11.11.11", "01.10.00", "00.00.00"):
            rank = x.count("1")
            for k in range(9):
                self.assertIs(w.survives(x, k), k <= rank)
            self.assertIs(w.survives(x, 10 ** 59), False)
            self.assertIs(w.survives(x, EVER), False)

    def test_ever(self):
        w = worths(COUNT)
        for k in (0, 1, 5, 10 ** 59, EVER):
            self.assertIs(w.survives("00.00.00", k), True)

    def test_a_pattern_that_reads_nothing(self):
        for erases in (True, False):
            for k in (0, 1, 10 ** 59, EVER):
                self.assertIs(worths(STORE, erases).survives("011", k), False)

    def test_no_pattern_then_unlike(self):
        w = worths(STORE)
        for x, at in [("", 0), ("1.", 2), ("1x1", 1), ("1.1.1.1", 5), ("***", 0)] + [(x, 0) for x in NO_TEXTS]:
            for call in (lambda: w[x], lambda: w.survives(x, 0), lambda: w.survives(x, EVER)):
                with self.assertRaises(NoPattern) as caught:
                    call()
                self.assertEqual(caught.exception.at, at)
        for x in ("1", "11", "1111", "1.11", "1.1.1"):
            for call in (lambda: w[x], lambda: w.survives(x, 0), lambda: w.survives(x, EVER)):
                with self.assertRaises(Unlike):
                    call()

    def test_worths_are_not_iterated_over(self):
        with self.assertRaises(TypeError):
            list(worths(STORE))


class MostTest(unittest.TestCase):
    def test_of_states_with_a_change_only(self):
        store = Store([2], [("11", "a"), ("10", "b"), ("01", "c")], [("a", "b"), ("b", "a")])
        w = worths(store, False)
        self.assertEqual((w["01"], w["11"], w["10"], w.most()), (EVER, 1, 0, 1))

    def test_none(self):
        store = Store([2], [("11", "a")], [("b", "a")])
        for erases in (True, False):
            self.assertEqual((worths(store, erases)["11"], worths(store, erases).most()), (EVER, None))

    def test_nought(self):
        for erases in (True, False):
            self.assertEqual(worths(Store([2], [("11", "a")], [("a", "b")]), erases).most(), 0)

    def test_many(self):
        for store in some_stores(15):
            for erases in (True, False):
                ranks = counted(store, erases)
                asked = [ranks[x] for x, name in states_of(store).items() if store.targets(name)]
                right = None
                if asked:
                    right = EVER if EVER in asked else max(asked)
                self.assertEqual(worths(store, erases).most(), right)


class BestTest(unittest.TestCase):
    def test_its_rows(self):
        for store in some_stores(16):
            for erases in (True, False):
                w = worths(store, erases)
                best = w.best()
                self.assertIsInstance(best, Driver)
                self.assertEqual(best.rows(), [(x, t, write) for x, _, moves in w.rows() for t, write, _ in moves])

    def test_what_judge_says_of_it(self):
        kinds = {}
        for store in some_stores(17):
            for erases in (True, False):
                w = worths(store, erases)
                best = w.best()
                for x in list(states_of(store))[:12]:
                    if w[x] == EVER:
                        found = [judge(store, best, x, changes)[0] == "closed" for changes in (0, 1, 7, None)]
                        self.assertEqual(found, [True] * 4)
                    else:
                        found = [judge(store, best, x, changes)[0] == "closed" for changes in (w[x], w[x] + 1, None)]
                        self.assertEqual(found, [True, False, False])
                    kinds[w[x]] = kinds.get(w[x], 0) + 1
        self.assertTrue({0, 1, 2, EVER} <= set(kinds), kinds)

    def test_up_to_six_changes(self):
        w = worths(COUNT, False)
        best = w.best()
        for x in ("11.11.11", "10.11.01", "00.00.01"):
            for changes in range(8):
                self.assertEqual(judge(COUNT, best, x, changes)[0] == "closed", changes <= x.count("1"))

    def test_no_other_driver_does_better(self):
        # Point 4: some driver survives k changes exactly if k is at most the worth.
        rows = [(mask, wish, write) for mask in ("11", "10", "01", "00") for wish in ("a", "b")
                for write in (("fall", (0,)), ("fall", (1,)), ("fall", (0, 1)), ("erase", 0))]
        dice = random.Random(18)
        for _ in range(25):
            store = some_store(dice, (2,), ("a", "b"), 0.1, 2)
            ranks = ranks_of(store)
            drivers = [Driver(store, dice.sample(rows, dice.randint(1, 8))) for _ in range(20)]
            for x, rank in ranks.items():
                for changes in (1, 2, 3):
                    if not at_least(rank, changes):
                        self.assertTrue(all(judge(store, driver, x, changes)[0] != "closed" for driver in drivers))


if __name__ == "__main__":
    unittest.main()
