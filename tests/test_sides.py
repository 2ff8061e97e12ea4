"""Tests of fallenbits.sides: points 45 and 2."""

import itertools
import random
import unittest

from fallenbits.errors import NoStore
from fallenbits.fields import Choice, Count, Mark, Once, Toggle
from fallenbits.sides import side_by_side, together
from fallenbits.stores import Store
from fallenbits.worths import worths
from tests.runs import some_store
from tests.samples import texts_of


def least(ranks):
    """Return the least of some ranks, None if one of them is none."""
    if None in ranks:
        return None
    numbers = [rank for rank in ranks if rank != "ever"]
    return min(numbers) if numbers else "ever"


def readings_by_words(stores):
    """Return what the patterns of several stores read by the words of point 45."""
    found = {}
    for parts in itertools.product(*[texts_of(store.sizes) for store in stores]):
        names = [store.read(x) for store, x in zip(stores, parts)]
        found[".".join(parts)] = None if None in names else "-".join(names)
    return found


def changes_by_words(stores):
    """Return the set of the changes of several stores side by side by the words of point 45."""
    found = set()
    rows = list(itertools.product(*[store.states for store in stores]))
    for one, other in itertools.product(rows, repeat=2):
        unlike = [at for at in range(len(stores)) if one[at] != other[at]]
        if len(unlike) == 1 and (one[unlike[0]], other[unlike[0]]) in stores[unlike[0]].changes():
            found.add(("-".join(one), "-".join(other)))
    return found


def some_parts(seed, many):
    """Return lists of two or three small stores with names of their own, made by dice."""
    dice = random.Random(seed)
    found = []
    while len(found) < many:
        shapes = dice.choice([[(1,), (1,)], [(1,), (2,)], [(2,), (1,)], [(1, 1), (1,)], [(2,), (2,)], [(1,), (1,), (1,)],
                              [(1,), (2,), (1,)], [(3,), (1,)], [(2,), (1, 2)]])
        gap = dice.choice([0, 0, 0.2, 1])
        stores = [some_store(dice, sizes, names, gap, dice.choice([0, 1, 2]))
                  for sizes, names in zip(shapes, (("a", "b"), ("c", "d"), ("e", "f")))]
        if len(changes_by_words(stores)) <= 16:
            found.append(stores)
    return found


class SideBySideTest(unittest.TestCase):
    def test_worked_by_hand(self):
        two = side_by_side(Toggle(1).as_store(), Toggle(2).as_store())
        self.assertEqual((two.read("0.10"), two.targets("on-on"), worths(two)["1.11"], worths(two, False)["1.11"]),
                         ("on-on", ["off-on", "on-off"], "ever", 1))

    def test_sizes(self):
        for sizes, fields in [((1, 2), (Toggle(1), Toggle(2))), ((2, 4), (Count(2), Toggle(4))), ((5, 1), (Count(5), Mark())),
                              ((1, 1, 3), (Count(1), Count(1), Toggle(3)))]:
            self.assertEqual(side_by_side(*[field.as_store() for field in fields]).sizes, sizes)
        pair = Store([1, 2], [("1.**", "a")], [])
        self.assertEqual(side_by_side(pair, Mark().as_store()).sizes, (1, 2, 1))
        self.assertEqual(side_by_side(Mark().as_store(), pair).sizes, (1, 1, 2))

    def test_against_the_words(self):
        for stores in some_parts(1, 300):
            found = side_by_side(*stores)
            self.assertEqual({x: found.read(x) for x in found.patterns()}, readings_by_words(stores))
            self.assertEqual(set(found.changes()), changes_by_words(stores))
            self.assertEqual(len(found.changes()), len(changes_by_words(stores)))
            told = {"-".join(row) for row in itertools.product(*[store.states for store in stores])}
            self.assertLessEqual(set(found.states), told)

    def test_worths_are_the_least_of_the_parts(self):
        kinds = set()
        for stores in some_parts(2, 150):
            for erases in (True, False):
                found = worths(side_by_side(*stores), erases)
                ranks = [worths(store, erases) for store in stores]
                for parts in itertools.product(*[texts_of(store.sizes) for store in stores]):
                    rank = least([some[x] for some, x in zip(ranks, parts)])
                    self.assertEqual(found[".".join(parts)], rank)
                    kinds.add(rank)
        self.assertLessEqual({None, 0, 1, "ever"}, kinds)

    def test_states_that_no_pattern_reads(self):
        # c is a state by a change alone: the other part changes beside it, too.
        one = Store([1], [("1", "a"), ("0", "b")], [("a", "b")])
        other = Store([1], [("1", "d")], [("d", "c")])
        found = side_by_side(one, other)
        self.assertEqual(set(found.changes()), {("a-c", "b-c"), ("a-d", "b-d"), ("a-d", "a-c"), ("b-d", "b-c")})
        self.assertEqual([found.read(x) for x in ("0.0", "0.1", "1.0", "1.1")], [None, "b-d", None, "a-d"])
        hidden = Store([1], [("*", "d"), ("1", "e")], [])
        self.assertEqual(set(side_by_side(one, hidden).changes()), {("a-d", "b-d"), ("a-e", "b-e")})

    def test_beside_a_part_without_states(self):
        one = Store([1], [("1", "a"), ("0", "b")], [("a", "b"), ("b", "a")])
        bare = Store([2], [], [])
        for found in (side_by_side(one, bare), side_by_side(bare, one), side_by_side(one, bare, one)):
            self.assertEqual(found.changes(), [])
            self.assertEqual({found.read(x) for x in found.patterns()}, {None})
            self.assertEqual(found.states, ())
        self.assertEqual(together(one, bare).changes(), [])

    def test_a_joined_name_can_be_cut_in_two_ways_if_it_stands_once(self):
        one = Store([1], [("1", "a-b")], [])
        other = Store([1], [("1", "c"), ("0", "b-c")], [])
        self.assertEqual(side_by_side(one, other).states, ("a-b-b-c", "a-b-c"))


class TogetherTest(unittest.TestCase):
    def test_worked_by_hand(self):
        found = worths(together(Toggle(1).as_store(), Toggle(1).as_store()))
        self.assertEqual(found["1.1"], 0)

    def test_changes_of_both_at_once(self):
        one, other = Choice(("a", "b", "c"), 1).as_store(), Toggle(2).as_store()
        found = together(one, other)
        self.assertEqual(set(found.changes()), {(s + "-" + u, t + "-" + v) for s, t in one.changes() for u, v in other.changes()})
        self.assertEqual(len(found.changes()), 12)
        self.assertEqual({x: found.read(x) for x in found.patterns()}, readings_by_words([one, other]))

    def test_worths_are_none(self):
        for stores in some_parts(3, 150):
            if len(stores) == 2:
                found = together(*stores)
                self.assertEqual(len(found.changes()), len(stores[0].changes()) * len(stores[1].changes()))
                for erases in (True, False):
                    ranks = worths(found, erases)
                    for x in found.patterns():
                        if found.read(x) is not None:
                            self.assertEqual(ranks[x], 0 if found.targets(found.read(x)) else "ever")


class ErrorTest(unittest.TestCase):
    def refused(self, part, call, *stores):
        with self.assertRaises(NoStore) as caught:
            call(*stores)
        self.assertEqual((caught.exception.part, caught.exception.at), (part, None))

    def test_sizes(self):
        four, three = Count(4).as_store(), Count(3).as_store()
        pair = Store([1, 1], [], [])
        for call in (side_by_side, together):
            self.refused("sizes", call, four, three)
            self.refused("sizes", call, pair, pair)
        self.refused("sizes", side_by_side, three, three, Mark().as_store())
        self.refused("sizes", side_by_side, pair, Mark().as_store(), Mark().as_store())
        # Six bits in three blocks are not too many.
        plain = Store([2], [("11", "a")], [])
        self.assertEqual(side_by_side(plain, plain, plain).sizes, (2, 2, 2))

    def test_names(self):
        long, six = Store([1], [("1", "a" * 6)], []), Store([1], [("1", "b" * 6)], [])
        five = Store([1], [("1", "b" * 5)], [])
        for call in (side_by_side, together):
            self.assertEqual(call(long, five).states, ("a" * 6 + "-" + "b" * 5,))
            self.refused("rules", call, long, six)
            self.refused("rules", call, Store([1], [("1", "a"), ("0", "a-b")], []), Store([1], [("1", "c"), ("0", "b-c")], []))
        self.refused("rules", side_by_side, Store([1], [("1", "a" * 4)], []), Store([1], [("1", "b" * 4)], []),
                     Store([1], [("1", "c" * 3)], []))

    def test_names_of_states_that_no_pattern_reads(self):
        one = Store([1], [("1", "a")], [("a", "x" * 7)])
        other = Store([1], [("1", "b")], [("b", "x" * 5)])
        for call in (side_by_side, together):
            self.refused("rules", call, one, other)
            self.refused("rules", call, Store([1], [("1", "a"), ("*", "d"), ("0", "a-b")], []),
                         Store([1], [("1", "c"), ("0", "d")], [("c", "b-c")]))
        # Beside a part without states there is no joined name.
        self.assertEqual(side_by_side(Store([1], [("1", "a" * 12)], []), Store([1], [], [])).states, ())

    def test_changes(self):
        four = Choice(tuple("abcd"), 1).as_store()
        self.refused("changes", side_by_side, four, Mark().as_store())
        self.refused("changes", together, four, Toggle(1).as_store())
        self.assertEqual(len(together(four, Mark().as_store()).changes()), 12)
        eight = Store([2], [("11", "a"), ("10", "b"), ("01", "c"), ("00", "d")],
                      [("a", "b"), ("b", "c"), ("c", "d"), ("d", "a"), ("a", "c"), ("b", "d"), ("c", "a")])
        self.assertEqual(len(side_by_side(eight, Store([1], [("1", "p"), ("0", "q")], [])).changes()), 14)
        self.refused("changes", side_by_side, eight, Store([1], [("1", "p"), ("0", "q")], [("p", "q")]))
        self.assertEqual(len(together(eight, Once(("x", "y")).as_store()).changes()), 14)

    def test_sixteen_changes_and_eighteen(self):
        two = Store([1], [("1", "p"), ("0", "q")], [("p", "q"), ("q", "p")])
        three = Store([2], [("11", "a"), ("10", "b"), ("01", "c"), ("00", "d")], [("a", "b"), ("b", "c"), ("c", "d"), ("d", "a")])
        self.assertEqual(len(side_by_side(two, three).changes()), 16)
        self.refused("changes", side_by_side, two, three.renamed((1, 0)), Store([1], [("1", "e"), ("0", "f")], []))

    def test_sizes_then_names_then_changes(self):
        long = "x" * 12
        all_wrong = Store([4], [("1***", "a"), ("0***", long)], [("a", long)] + [("a", "b" + str(n)) for n in range(15)])
        self.refused("sizes", side_by_side, all_wrong, all_wrong)
        self.refused("sizes", together, all_wrong, all_wrong)
        wrong = Store([2], [("1*", "a"), ("0*", long)], all_wrong.changes())
        self.refused("rules", side_by_side, wrong, wrong)
        self.refused("rules", together, wrong, wrong)

    def test_arguments_stay(self):
        one, other = Toggle(1).as_store(), Toggle(2).as_store()
        kept = (one.rules(), one.changes(), other.rules(), other.changes())
        found = side_by_side(one, other)
        found.changes().clear()
        self.assertEqual(found, side_by_side(one, other))
        self.assertEqual(together(one, other), together(one, other))
        self.assertEqual((one.rules(), one.changes(), other.rules(), other.changes()), kept)


if __name__ == "__main__":
    unittest.main()
