"""Tests of fallenbits.prices: points 30 to 36 and 2."""

import inspect
import itertools
import random
import unittest

from fallenbits.errors import NoPattern, NoState, Unlike
from fallenbits.prices import Limited, Plain, Price, Same, enough, prices_of
from fallenbits.stores import Store
from fallenbits.worths import worths
from tests.levels import EVER, at_least, comes, counted, one_less, plain, same, states_of, steps_of
from tests.runs import some_store
from tests.samples import NO_LISTS, NO_NUMBERS, NO_TEXTS, NO_TUPLES, ODD_THINGS, texts_of

STORE = Store([2], [("11", "a"), ("01", "a"), ("10", "c"), ("00", "b")], [("a", "b"), ("b", "a")])
THREE = Store([2], [("1*", "a"), ("01", "b"), ("00", "c")], [("a", "b"), ("a", "c"), ("b", "a"), ("c", "a")])
GAPS = Store([2], [("11", "a"), ("00", "b"), ("10", "c")], [("a", "b"), ("c", "b")])
SHAPES = [((1,), 6), ((2,), 25), ((1, 1), 25), ((3,), 20), ((2, 1), 20), ((1, 1, 1), 12), ((4,), 3), ((2, 2), 3), ((2, 2, 2), 1)]

HUGE = 10 ** 60
DEEP = ()
for _ in range(50):
    DEEP = (DEEP,)
ANYTHING = ODD_THINGS + [DEEP, [DEEP], HUGE, "x" * 6000, [None] * 2000, {"rows": []}]
NO_RANKS = NO_NUMBERS + [-1, -HUGE, "Ever", "ever ", ["ever"], ("ever",)]


def all_prices(store, erases=True):
    """Return the prices of a store of each kind, Limited for each number."""
    return [Limited(store, n, erases) for n in range(1, 7)] + [Same(store, erases), Plain(store, erases)]


def some_stores(seed):
    """Yield stores of many shapes, made by dice with a seed."""
    dice = random.Random(seed)
    for sizes, many in SHAPES:
        for _ in range(many):
            names = dice.choice([("a", "b"), ("a", "b", "c"), ("a", "b", "c", "d")])
            yield some_store(dice, sizes, names, dice.choice([0, 0.1, 0.3]), dice.randint(0, 7))


class WorkedTest(unittest.TestCase):
    def test_prices_and_enough(self):
        self.assertEqual(prices_of(STORE, "11"), (0, 1, 1, EVER))
        self.assertEqual(prices_of(STORE, "11", erases=False), (0, 1, 1, 1))
        self.assertEqual(enough(STORE, "11"), 2)

    def test_limited(self):
        self.assertEqual(Limited(STORE, 2).rows(), [
            ("00", 0, (("a", ()),)), ("01", 1, (("b", (("fall", (1,)),)),)), ("10", EVER, ()),
            ("11", 1, (("b", (("fall", (0,)), ("fall", (1,)))),))])

    def test_same(self):
        self.assertEqual(prices_of(THREE, "11", erases=False), (0, 0, 1, 1))
        self.assertEqual(prices_of(THREE, "11"), (0, 1, 1, EVER))
        self.assertEqual((Same(THREE, False).rank("10", "b"), Same(THREE, False).rank("10", "c")), (0, 1))

    def test_the_class_value(self):
        self.assertEqual((Price.MOST_WRITES, Limited.MOST_WRITES, Same(STORE).MOST_WRITES), (6, 6, 6))
        for made in (Limited, Same, Plain):
            self.assertTrue(issubclass(made, Price))

    def test_erases_may_be_left_out_or_named(self):
        for made in (lambda *e, **k: Limited(STORE, 2, *e, **k), lambda *e, **k: Same(STORE, *e, **k),
                     lambda *e, **k: Plain(STORE, *e, **k)):
            self.assertEqual(made().rows(), made(True).rows())
            self.assertEqual(made(erases=False).rows(), made(False).rows())
        self.assertEqual(prices_of(STORE, "11"), prices_of(STORE, "11", True))
        self.assertEqual(enough(STORE, "11", erases=False), enough(STORE, "11", False))


class RankTest(unittest.TestCase):
    def test_limited_by_the_words(self):
        found = {}
        for store in some_stores(31):
            for erases in (True, False):
                for n in range(1, 7):
                    ranks = counted(store, erases, n)
                    price = Limited(store, n, erases)
                    self.assertEqual({x: price[x] for x in ranks}, ranks)
                    for rank in ranks.values():
                        found[rank] = found.get(rank, 0) + 1
        self.assertTrue({0, 1, 2, 3, EVER} <= set(found), found)

    def test_same_by_the_words(self):
        unlike = 0
        for store in some_stores(32):
            for erases in (True, False):
                ranks, parts = same(store, erases)
                price = Same(store, erases)
                self.assertEqual({x: price[x] for x in ranks}, ranks)
                self.assertEqual({(x, t): price.rank(x, t) for x, t in parts}, parts)
                unlike += any(parts[(x, t)] != ranks[x] for x, t in parts)
        self.assertGreater(unlike, 10)

    def test_plain_by_the_words(self):
        for store in some_stores(33):
            for erases in (True, False):
                ranks = plain(store, erases)
                price = Plain(store, erases)
                self.assertEqual({x: price[x] for x in ranks}, ranks)

    def test_a_fall_of_several_bits_counts_as_one_write(self):
        store = Store([3], [("111", "a"), ("***", "b")], [("a", "b")])
        far = Store([3], [("000", "b"), ("***", "a")], [("a", "b")])
        self.assertEqual([Limited(store, n)["111"] for n in (1, 2)], [EVER, EVER])
        # Each fall on the way reads a or b, so one write does it.
        self.assertEqual([Limited(far, n)["111"] for n in (1, 2)], [EVER, EVER])
        between = Store([3], [("111", "a"), ("011", "a"), ("001", "a"), ("000", "b")], [("a", "b")])
        self.assertEqual([Limited(between, n)["111"] for n in range(1, 7)], [0, 0, EVER, EVER, EVER, EVER])

    def test_plain(self):
        # Falls only: x itself cannot come from x, and no bit rises.
        store = Store([1, 1], [("1.1", "a"), ("0.1", "b"), ("1.0", "c"), ("0.0", "a")], [("a", "b"), ("b", "c"), ("c", "a"), ("b", "a")])
        self.assertEqual([Plain(store, False)[x] for x in texts_of((1, 1))], [0, 0, 1, 1])
        self.assertEqual([Plain(store)[x] for x in texts_of((1, 1))], [EVER] * 4)

    def test_the_order(self):
        for store in some_stores(34):
            for erases in (True, False):
                prices = all_prices(store, erases)
                worth = worths(store, erases)
                for x in states_of(store):
                    ranks = [price[x] for price in prices[:6]] + [worth[x], prices[6][x], prices[7][x]]
                    self.assertTrue(all(at_least(b, a) for a, b in zip(ranks, ranks[1:])), ranks)
                    if not erases:
                        for n in range(max(1, x.count("1")), 7):
                            self.assertEqual(ranks[n - 1], worth[x])

    def test_prices_of_and_enough(self):
        told = {}
        for store in some_stores(35):
            for erases in (True, False):
                worth = worths(store, erases)
                prices = all_prices(store, erases)
                for x in list(store.patterns())[:6]:
                    if x not in states_of(store):
                        self.assertEqual(prices_of(store, x, erases), (None, None, None, None))
                        self.assertIsNone(enough(store, x, erases))
                        continue
                    self.assertEqual(prices_of(store, x, erases), (prices[0][x], worth[x], prices[6][x], prices[7][x]))
                    right = [n for n in range(1, 7) if prices[n - 1][x] == worth[x]]
                    self.assertEqual(enough(store, x, erases), right[0] if right else None)
                    told[right[0]] = told.get(right[0], 0) + 1
        self.assertTrue({1, 2} <= set(told), told)

    def test_nothing_is_enough(self):
        # No failure may leave the way, so each of its seven writes must be made by itself.
        way = ["1.11111", "0.11111", "0.01111", "0.00111", "1.00111", "1.00011", "1.00001", "1.00000"]
        store = Store([1, 5], [(x, "a") for x in way[:-1]] + [(way[-1], "b")], [("a", "b")])
        self.assertEqual([worths(store)[x] for x in way], [EVER] * 8)
        self.assertEqual([Limited(store, n)[way[0]] for n in range(1, 8)], [0] * 6 + [EVER])
        self.assertEqual([enough(store, x) for x in way], [None, 6, 5, 4, 3, 2, 1, 1])
        self.assertIsNone(enough(store, "1.01111"))

    def test_no_changes_and_no_rules(self):
        for erases in (True, False):
            for price in all_prices(Store([2], [("1*", "a")], []), erases):
                self.assertEqual((price["11"], price["10"], price["00"], len(price)), (EVER, EVER, None, 2))
                self.assertEqual(price.rows(), [("10", EVER, ()), ("11", EVER, ())])
            for price in all_prices(Store([2], [], [("a", "b")]), erases):
                self.assertEqual((price["11"], len(price), list(price.patterns()), price.rows()), (None, 0, [], []))
                self.assertTrue(price.shows_rows([]))


class OperatorTest(unittest.TestCase):
    def test_item(self):
        for price in all_prices(GAPS):
            self.assertIsNone(price["01"])
            for x, at in [("", 0), ("1.", 2), ("1x", 1), ("1.1.1.1", 5), ("**", 0)] + [(x, 0) for x in NO_TEXTS]:
                with self.assertRaises(NoPattern) as caught:
                    price[x]
                self.assertEqual(caught.exception.at, at)
            for x in ("1", "111", "1.1", "11.1"):
                with self.assertRaises(Unlike):
                    price[x]

    def test_in(self):
        for store in (STORE, THREE, GAPS):
            for price in all_prices(store) + all_prices(store, False):
                for x in texts_of((2,)):
                    self.assertIs(x in price, price[x] is not None and price[x] != 0)
                for thing in ANYTHING + ["", "1", "111", "1.1", "**", ("11",), ["11"]]:
                    self.assertIs(thing in price, False)
        self.assertEqual([x in Limited(STORE, 2) for x in texts_of((2,))], [False, True, True, True])

    def test_len_and_patterns(self):
        for store in (STORE, THREE, GAPS):
            for price in all_prices(store):
                self.assertEqual(len(price), len(states_of(store)))
                self.assertTrue(inspect.isgenerator(price.patterns()))
                self.assertEqual(list(price.patterns()), list(states_of(store)))
        self.assertEqual(list(Plain(GAPS).patterns()), ["00", "10", "11"])

    def test_a_price_is_not_iterated_over(self):
        for price in all_prices(STORE):
            with self.assertRaises(TypeError):
                list(price)

    def test_order_and_equality(self):
        found = {}
        for store in some_stores(36):
            again = Store(list(store.sizes), store.rules(), store.changes()[::-1])
            prices = all_prices(store) + all_prices(again, False)
            names = states_of(store)
            for p, q in itertools.product(prices, repeat=2):
                lower = all(at_least(q[x], p[x]) for x in names)
                upper = all(at_least(p[x], q[x]) for x in names)
                self.assertEqual([p <= q, p < q, p >= q, p > q, p == q, p != q],
                                 [lower, lower and not upper, upper, upper and not lower, lower and upper, not (lower and upper)])
                found[(lower, upper)] = found.get((lower, upper), 0) + 1
        self.assertEqual(len(found), 4, found)

    def test_equal_across_classes(self):
        p, q, r = Limited(STORE, 2), Limited(STORE, 6), Same(Store([2], [("10", "c"), ("00", "b"), ("**", "a")], STORE.changes()))
        self.assertTrue(p == q == r)
        self.assertTrue(p <= r and r <= p and not p < r and not p > r)
        self.assertFalse(p == Plain(STORE))
        self.assertTrue(p < Plain(STORE) and Plain(STORE) > p and Plain(STORE) >= r and not Plain(STORE) <= r)

    def test_other_stores(self):
        others = [THREE, Store([2], STORE.rules(), [("a", "b")]), Store([2], STORE.rules() + [("**", "a")], []),
                  Store([1, 1], [("*.*", "a")], STORE.changes()), Store([2], STORE.rules()[:3], STORE.changes())]
        for other in others:
            for p in all_prices(STORE):
                for q in all_prices(other):
                    for call in (lambda: p <= q, lambda: p < q, lambda: p >= q, lambda: p > q, lambda: q <= p, lambda: q > p):
                        with self.assertRaises(Unlike):
                            call()
                    self.assertIs(p == q, False)
                    self.assertIs(p != q, True)

    def test_other_values(self):
        for p in all_prices(STORE):
            for thing in ANYTHING + [worths(STORE), STORE]:
                self.assertIs(p == thing, False)
                self.assertIs(thing == p, False)
                self.assertIs(p != thing, True)
                for call in (lambda: p <= thing, lambda: p < thing, lambda: p >= thing, lambda: p > thing, lambda: thing < p):
                    with self.assertRaises(TypeError):
                        call()


class SameTest(unittest.TestCase):
    def test_rank_for_a_target(self):
        price = Same(THREE)
        self.assertEqual([price.rank("10", "c"), price.rank("10", "b"), price["10"]], [1, 3, 1])

    def test_errors_of_rank(self):
        price = Same(GAPS)
        self.assertEqual((price["11"], price.rank("11", "b")), (0, 0))
        for x, at in [("", 0), ("1.", 2), ("1x", 1)] + [(x, 0) for x in NO_TEXTS]:
            for t in ("a", "b", "x"):
                with self.assertRaises(NoPattern) as caught:
                    price.rank(x, t)
                self.assertEqual(caught.exception.at, at)
        for x in ("1", "111", "1.1"):
            for t in ("a", "b", "x"):
                with self.assertRaises(Unlike):
                    price.rank(x, t)
        for x, t in [("11", "a"), ("11", "c"), ("11", "x"), ("11", ""), ("00", "a"), ("00", "b"), ("01", "a"), ("01", "b")]:
            with self.assertRaises(NoState):
                price.rank(x, t)
        for t in ANYTHING:
            if t != "b":
                with self.assertRaises(NoState):
                    price.rank("11", t)


class PricesTest(unittest.TestCase):
    def test_errors(self):
        for x, at in [("", 0), ("1.", 2), ("1x", 1)] + [(x, 0) for x in NO_TEXTS]:
            for call in (prices_of, enough):
                with self.assertRaises(NoPattern) as caught:
                    call(GAPS, x)
                self.assertEqual(caught.exception.at, at)
        for x in ("1", "111", "1.1"):
            for call in (prices_of, enough):
                with self.assertRaises(Unlike):
                    call(GAPS, x, False)

    def test_a_pattern_that_reads_nothing(self):
        for erases in (True, False):
            self.assertEqual(prices_of(GAPS, "01", erases), (None, None, None, None))
            self.assertIsNone(enough(GAPS, "01", erases))


def is_way(store, x, writes, erases):
    """Tell by the words of point 30 whether writes are a row of writes from x; return its patterns and boxes."""
    if not isinstance(writes, tuple) or not writes:
        return None
    stands, boxes = [x], []
    for write in writes:
        steps = {step[0]: step[1:] for step in steps_of(stands[-1], erases)}
        if write not in steps:
            return None
        stands.append(steps[write][0])
        boxes.append(steps[write][1])
    return stands, boxes


def shown(price, store, rows, erases, n=None):
    """Tell by the words of point 35 whether rows of the right form show the ranks of a price."""
    names = states_of(store)
    is_same, is_plain = isinstance(price, Same), isinstance(price, Plain)
    told = {x: (rank, {entry[0]: (entry[1] if is_same else rank) for entry in moves}) for x, rank, moves in rows}
    for x, rank, moves in rows:
        for entry in moves:
            t, r, writes = entry[0], told[x][1][entry[0]], entry[-1]
            if is_same and not at_least(r, rank):
                return False
            if r == 0:
                if writes != ():
                    return False
                continue
            way = is_way(store, x, writes, erases)
            if way is None or names.get(way[0][-1]) != t:
                return False
            stands, boxes = way
            if is_plain:
                if stands[-1] not in told or not at_least(told[stands[-1]][0], one_less(r)):
                    return False
                continue
            if any(names.get(y) != names[x] for y in stands[:-1]) or (n is not None and len(writes) > n):
                return False
            for z in itertools.chain(*boxes):
                if z not in told:
                    return False
                stays = names[z] == names[x] and at_least(told[z][1][t], r)
                if not stays and not (names[z] == t and at_least(told[z][0], one_less(r))):
                    return False
    return True


class RowsTest(unittest.TestCase):
    def check(self, right, price, thing):
        self.assertIs(price.shows_rows(thing), right, thing)

    def test_rows(self):
        for store in some_stores(37):
            names = states_of(store)
            for erases in (True, False):
                for n, price in enumerate(all_prices(store, erases), 1):
                    rows = price.rows()
                    self.assertEqual([(x, rank) for x, rank, moves in rows], [(x, price[x]) for x in names])
                    for x, rank, moves in rows:
                        self.assertIsInstance(moves, tuple)
                        self.assertEqual([entry[0] for entry in moves], store.targets(names[x]))
                        if isinstance(price, Same):
                            self.assertEqual([entry[1] for entry in moves], [price.rank(x, entry[0]) for entry in moves])
                        else:
                            self.assertTrue(all(len(entry) == 2 for entry in moves))
                    self.assertTrue(shown(price, store, rows, erases, n if n < 7 else None))
                    self.check(True, price, rows)

    def test_rows_of_limited_have_few_writes(self):
        for store in some_stores(38):
            for n in range(1, 7):
                for _, rank, moves in Limited(store, n).rows():
                    self.assertTrue(all((len(writes) == 0) == (rank == 0) and len(writes) <= n for _, writes in moves))

    def test_each_list_is_new(self):
        for price in all_prices(THREE):
            rows = price.rows()
            kept = list(rows)
            self.check(True, price, rows)
            self.assertEqual(rows, kept)
            rows.clear()
            self.assertEqual(price.rows(), kept)
            self.assertEqual(list(price.patterns()), list(states_of(THREE)))

    def test_in_another_order_and_fewer(self):
        for price in all_prices(THREE):
            for rows in itertools.permutations(price.rows()):
                self.check(True, price, list(rows))
            self.check(True, price, [])

    def test_rows_that_lack(self):
        for store in some_stores(39):
            for erases in (True, False):
                for n, price in enumerate(all_prices(store, erases), 1):
                    rows = price.rows()
                    for at in range(min(4, len(rows))):
                        fewer = rows[:at] + rows[at + 1:]
                        self.check(shown(price, store, fewer, erases, n if n < 7 else None), price, fewer)

    def test_changed_rows_by_the_words(self):
        dice = random.Random(40)
        told = {}
        for store in some_stores(41):
            for erases in (True, False):
                for n, price in enumerate(all_prices(store, erases), 1):
                    rows = price.rows()
                    if not rows:
                        continue
                    at = dice.randrange(len(rows))
                    rows = rows[:at] + [self.changed(dice, rows[at], isinstance(price, Same))] + rows[at + 1:]
                    right = shown(price, store, rows, erases, n if n < 7 else None)
                    self.check(right, price, rows)
                    told[(price.__class__.__name__, right)] = told.get((price.__class__.__name__, right), 0) + 1
                    if right:
                        self.assertTrue(all(at_least(price[x], rank) for x, rank, moves in rows if moves))
        self.assertTrue(len(told) == 6 and min(told.values()) > 20, told)

    def changed(self, dice, row, is_same):
        """Return a row with another rank, or with other writes."""
        x, rank, moves = row
        if dice.random() < 0.6:
            rank = dice.choice([0, 1, 2, EVER])
            if is_same:
                moves = tuple((t, part, writes) for t, part, writes in moves)
            else:
                moves = tuple((t, () if rank == 0 else writes) for t, writes in moves)
        else:
            write = dice.choice([("fall", (0,)), ("fall", (1,)), ("erase", 0), ("fall", (0, 1))])
            moves = tuple((*entry[:-1], dice.choice([entry[-1] + (write,), entry[-1][:-1], (write,)])) for entry in moves)
        return (x, rank, moves)

    def test_lower_ranks(self):
        price = Limited(STORE, 2)
        fall, both = (("fall", (1,)),), (("fall", (0,)), ("fall", (1,)))
        zero = ("00", 0, (("a", ()),))
        self.check(True, price, [zero, ("01", 1, (("b", fall),)), ("11", 0, (("b", ()),))])
        self.check(True, price, [("11", 0, (("b", ()),)), ("10", 5, ())])
        self.check(False, price, [zero, ("01", 0, (("b", ()),)), ("11", 1, (("b", both),))])
        self.check(False, price, [zero, ("01", 2, (("b", fall),))])
        self.check(False, price, [("01", 1, (("b", fall),))])
        ever = Plain(STORE)
        way = (("erase", 0),)
        down = (("fall", (0, 1)),)
        self.check(True, ever, [("11", 3, (("b", down),)), ("00", 2, (("a", way),))])
        self.check(False, ever, [("11", 4, (("b", down),)), ("00", 2, (("a", way),))])
        self.check(False, ever, [("00", 2, (("a", way),)), ("11", 0, (("b", ()),))])
        self.check(True, ever, [("00", 1, (("a", way),)), ("11", 0, (("b", ()),))])
        self.check(True, ever, [("00", HUGE + 1, (("a", way),)), ("11", HUGE, (("b", (("fall", (0,)), ("fall", (1,)))),))])

    def test_a_state_without_targets_shows_each_rank(self):
        for price in all_prices(STORE):
            for rank in (0, 1, HUGE, EVER):
                self.check(True, price, [("10", rank, ())])
            for rank in NO_RANKS:
                if rank != EVER:
                    self.check(False, price, [("10", rank, ())])
            self.check(False, price, [("10", 0, (("a", ()),))])

    def test_one_write_more_than_may_be(self):
        store = Store([3], [("000", "b"), ("***", "a")], [("a", "b")])
        zero = ("000", EVER, ())
        falls = tuple(("fall", (bit,)) for bit in range(3))
        rows = [zero] + [(x, EVER, (("b", tuple(("fall", (bit,)) for bit in range(3) if x[bit] == "1")),))
                         for x in texts_of((3,))[1:]]
        self.assertEqual(rows[-1], ("111", EVER, (("b", falls),)))
        self.assertEqual([Limited(store, n).shows_rows(rows) for n in range(1, 7)], [False, False] + [True] * 4)
        self.check(True, Plain(store), rows)
        self.check(True, Same(store), [(x, rank, tuple((t, rank, writes) for t, writes in moves)) for x, rank, moves in rows])

    def test_other_ends_read_the_old_state(self):
        store = Store([2], [("11", "a"), ("01", "b"), ("00", "b"), ("10", "a")], [("a", "b")])
        rows = [("00", 3, ()), ("01", 3, ()), ("10", 0, (("b", ()),)), ("11", 4, (("b", (("fall", (0,)), ("fall", (1,)))),))]
        # The first end reads b already.
        self.check(False, Limited(store, 2), rows)
        self.check(True, Plain(store), rows)
        self.check(True, Limited(store, 2), rows[:3] + [("11", 4, (("b", (("fall", (0,)),)),))])

    def test_same_has_ranks_of_its_own(self):
        price = Same(THREE, False)
        own = price.rows()
        self.check(True, price, own)
        x, rank, moves = own[3]
        self.assertEqual((x, rank), ("11", 1))
        self.check(True, price, own[:3] + [(x, 0, moves)])
        self.check(False, price, own[:3] + [(x, 2, moves)])
        self.check(False, price, own[:3] + [(x, rank, tuple((t, writes) for t, part, writes in moves))])
        self.check(False, price, own[:3] + [(x, EVER, moves)])
        for part in NO_RANKS:
            if part != EVER:
                self.check(False, price, own[:3] + [(x, 0, ((moves[0][0], part, moves[0][2]),) + moves[1:])])

    def test_anything(self):
        for price in all_prices(THREE):
            for thing in NO_LISTS + [tuple(price.rows()), {"11": 1}, DEEP, "rows"]:
                self.check(False, price, thing)
            for thing in ANYTHING:
                self.check(thing == [], price, thing)
                self.check(False, price, [thing])
                self.check(False, price, price.rows() + [thing])

    def test_a_pattern_twice(self):
        for price in all_prices(THREE):
            rows = price.rows()
            for at in range(4):
                self.check(False, price, rows + [rows[at]])

    def test_patterns(self):
        for price in all_prices(GAPS):
            for x in NO_TEXTS + ["", "0", "000", "0.0", "0*", "00 ", "01"]:
                self.check(False, price, [(x, 0, ())])
            self.check(True, price, [("00", 0, ())])

    def test_wrong_rows(self):
        for price in all_prices(THREE):
            is_same = isinstance(price, Same)
            rest = [row for row in price.rows() if row[0] != "11"]
            x, rank, moves = price.rows()[3]
            self.assertEqual([entry[0] for entry in moves], ["b", "c"])
            one, other = moves
            for row in [[x, rank, moves], (x, rank), (x, rank, moves, ()), (x, moves, rank), (rank, x, moves), (x,),
                        (x, rank, list(moves)), (x, rank, ()), (x, rank, (one,)), (x, rank, (other,)), (x, rank, (other, one)),
                        (x, rank, (one, one)), (x, rank, (one, other, other)), (x, rank, (list(one), other)),
                        (x, rank, (one, other[:-1])), (x, rank, (one, other + ((),))), (x, rank, one + other),
                        (x, rank, (one, ("d",) + other[1:])), (x, rank, (one, (None,) + other[1:])),
                        (x, rank, ((["b"],) + one[1:], other)), (x, rank, {one: other}), (x, rank, (one, None))]:
                self.check(False, price, rest + [row])
            for wrong in NO_RANKS:
                if wrong != EVER:
                    self.check(False, price, rest + [(x, wrong, moves)])
            for wrong in NO_TUPLES:
                self.check(False, price, rest + [(x, rank, wrong)])
            zero = (x, 0, tuple((t, 0, ()) if is_same else (t, ()) for t in ("b", "c")))
            self.check(True, price, [zero])
            for writes in NO_TUPLES + [(("fall", (0,)),), ((),), (None,)]:
                entry = ("b", 0, writes) if is_same else ("b", writes)
                self.check(False, price, [(x, 0, (entry, zero[2][1]))])

    def test_wrong_writes(self):
        store = Store([2], [("1*", "a"), ("0*", "b")], [("a", "b")])
        low = [("00", 5, ()), ("01", 5, ())]
        for erases in (True, False):
            for price in all_prices(store, erases):
                is_same = isinstance(price, Same)
                for writes in ANYTHING + [(("fall", (0,)), None), ("fall", (0,)), [("fall", (0,))], (["fall", (0,)],), (("fall", [0]),),
                                          (("fall", (2,)),), (("fall", (1,)),), (("erase", 0),), (("erase", 1),), (("fall", (True,)),),
                                          (("fall", (0,)), ("fall", (0,))), (("fall", (0, 0)),), (("fall", (0,)), ("fall", (1,)),
                                                                                                ("fall", (1,)))]:
                    entry = ("b", 6, writes) if is_same else ("b", writes)
                    self.check(False, price, low + [("10", 6, (entry,))])
                entry = ("b", 6, (("fall", (0,)),)) if is_same else ("b", (("fall", (0,)),))
                self.check(True, price, low + [("10", 6, (entry,))])
                rise = (("erase", 0), ("fall", (0, 1)))
                entry = ("b", 6, rise) if is_same else ("b", rise)
                if isinstance(price, Plain):
                    self.check(erases, price, low + [("10", 6, (entry,))])

    def test_a_box_with_too_small_a_rank(self):
        # From 11 both bits fall: the box has 10, which reads a, and 01 and 00, which read b.
        store = Store([2], [("1*", "a"), ("0*", "b")], [("a", "b")])
        for price in all_prices(store)[:7]:
            is_same = isinstance(price, Same)
            for mid, low, first, right in [(6, 5, 5, True), (7, 6, 6, True), (6, 4, 5, False), (6, 5, 4, False), (5, 5, 5, False),
                                           (EVER, EVER, 5, True), (EVER, EVER, 4, False), (EVER, 7, 7, False), (6, EVER, 7, True)]:
                fall, both = (("fall", (0,)),), (("fall", (0, 1)),)
                one, other = (("b", mid, fall), ("b", 6, both)) if is_same else (("b", fall), ("b", both))
                rows = [("00", low, ()), ("01", first, ()), ("10", 0 if is_same else mid, (one,)), ("11", 6, (other,))]
                self.check(right, price, rows)


if __name__ == "__main__":
    unittest.main()
