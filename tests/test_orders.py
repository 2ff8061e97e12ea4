"""Tests of fallenbits.orders: points 41 and 2."""

import itertools
import random
import unittest

from fallenbits.errors import NoPattern, NoWrite, Unlike
from fallenbits.looks import seen
from fallenbits.orders import forced, order_for
from tests.samples import NO_TEXTS, ODD_THINGS, bits_of, box_of, end_of, erases_of, falls_of, texts_of

ONE = ("01", [("erase", 0), ("fall", (1,))])
TWO = ("10", [("erase", 0), ("fall", (0,))])


def changed_by(x, write):
    """Return the set of the bits that a write changes."""
    return {bit for bit, (a, b) in enumerate(zip(bits_of(x), bits_of(end_of(x, write)))) if a != b}


def pairs_of(rows):
    """Return the forced pairs by the words of point 41."""
    found = set()
    for x, writes in rows:
        groups = []
        for write in writes:
            groups.append(changed_by(x, write))
            x = end_of(x, write)
        for earlier, later in itertools.combinations(groups, 2):
            found.update(itertools.product(later, earlier))
    return found


def straight_row(dice, sizes, most):
    """Return a tuple (x, writes) made by dice: a straight row of at most so many writes."""
    x = dice.choice(texts_of(sizes))
    here, writes, passed = x, [], set()
    for _ in range(dice.randint(0, most)):
        choices = [write for write in falls_of(here) + 2 * erases_of(here) if not changed_by(here, write) & passed]
        if choices:
            writes.append(dice.choice(choices))
            passed |= changed_by(here, writes[-1])
            here = end_of(here, writes[-1])
    return x, writes


def some_lists(seed, many, most=4):
    """Return lists of straight rows of patterns of equal sizes, made by dice."""
    dice = random.Random(seed)
    found = []
    for _ in range(many):
        sizes = dice.choice([(2,), (3,), (1, 2), (2, 2), (4,), (1, 1, 1), (1, 2, 1)])
        found.append([straight_row(dice, sizes, most) for _ in range(dice.randint(1, 4))])
    return found


def boxes_of(x, writes):
    """Return the patterns of the boxes of a row, or its one pattern."""
    found = {x}
    for write in writes:
        found.update(box_of(x, end_of(x, write)))
        x = end_of(x, write)
    return found


class ForcedTest(unittest.TestCase):
    def test_worked_by_hand(self):
        self.assertEqual(forced([ONE]), [(1, 0)])
        self.assertEqual(forced([TWO]), [(0, 1)])
        self.assertEqual(forced([ONE, TWO]), [(0, 1), (1, 0)])

    def test_rows_without_pairs(self):
        for rows in ([("11", [])], [("1.1", []), ("0.0", [])], [("11", [("fall", (0, 1))])], [("00", [("erase", 0)])],
                     [("111", [("fall", (0, 1))]), ("111", [("fall", (2,))])]):
            self.assertEqual(forced(rows), [])

    def test_three_writes(self):
        row = ("1.11.0", [("fall", (1,)), ("erase", 2), ("fall", (0, 2))])
        self.assertEqual(forced([row]), [(0, 1), (0, 3), (2, 1), (2, 3), (3, 1)])
        self.assertEqual(forced([row, row, ("1.11.0", [])]), forced([row]))

    def test_against_the_words(self):
        for rows in some_lists(1, 400):
            self.assertEqual(forced(rows), sorted(pairs_of(rows)), rows)

    def test_many_bits_and_rows(self):
        x = "1" * 60 + "." + "1" * 60
        row = (x, [("fall", (bit,)) for bit in range(120)])
        self.assertEqual(forced([row]), [(c, b) for c in range(120) for b in range(c)])
        self.assertEqual(order_for([row] * 3), ("order", tuple(range(119, -1, -1))))
        self.assertEqual(forced([("11", [("fall", (0,)), ("fall", (1,))])] * 1500), [(1, 0)])


class OrderForTest(unittest.TestCase):
    def looked_at(self, rows):
        """Return the word that order_for tells, with what it tells looked at by the words of point 41."""
        word, bits = order_for(rows)
        self.assertIsInstance(bits, tuple)
        pairs = pairs_of(rows)
        if word == "order":
            self.assertEqual(sorted(bits), list(range(len(bits_of(rows[0][0])))))
            for c, b in pairs:
                self.assertLess(bits.index(c), bits.index(b), rows)
            return word
        self.assertEqual(word, "ring")
        self.assertGreaterEqual(len(bits), 2)
        for c, b in zip(bits, bits[1:] + bits[:1]):
            self.assertIn((c, b), pairs, rows)
        return word

    def test_worked_by_hand(self):
        self.assertEqual(order_for([ONE]), ("order", (1, 0)))
        self.assertEqual(order_for([ONE, TWO])[0], "ring")
        self.assertEqual(sorted(order_for([ONE, TWO])[1]), [0, 1])

    def test_no_writes(self):
        self.assertEqual(self.looked_at([("1.01", [])]), "order")
        self.assertEqual(self.looked_at([("1", []), ("0", [])]), "order")

    def test_a_ring_of_three_beside_other_bits(self):
        rows = [("11111", [("fall", (1,)), ("fall", (3,))]), ("11111", [("fall", (3,)), ("fall", (4,))]),
                ("11111", [("fall", (4,)), ("fall", (1,))]), ("11111", [("fall", (0,)), ("fall", (1,)), ("fall", (2,))])]
        self.assertEqual(self.looked_at(rows), "ring")
        self.assertEqual(sorted(order_for(rows)[1]), [1, 3, 4])
        self.assertEqual(self.looked_at(rows[:2] + rows[3:]), "order")

    def test_against_all_orders(self):
        words = {"order": 0, "ring": 0}
        for rows in some_lists(2, 400):
            word = self.looked_at(rows)
            words[word] += 1
            pairs = pairs_of(rows)
            orders = itertools.permutations(range(len(bits_of(rows[0][0]))))
            some = any(all(order.index(c) < order.index(b) for c, b in pairs) for order in orders)
            self.assertEqual(word == "order", some)
        self.assertGreater(min(words.values()), 50)

    def test_an_order_takes_all_rows_cleanly(self):
        for rows in some_lists(3, 150):
            word, order = order_for(rows)
            pairs = pairs_of(rows)
            for some in itertools.permutations(range(len(bits_of(rows[0][0])))):
                clean = all(set(seen(x, writes, some)) == boxes_of(x, writes) for x, writes in rows)
                self.assertEqual(clean, all(some.index(c) < some.index(b) for c, b in pairs))
                if some == order and word == "order":
                    self.assertTrue(clean)


class ErrorTest(unittest.TestCase):
    def refused(self, error, rows):
        for call in (forced, order_for):
            with self.assertRaises(error) as caught:
                call(rows)
        return caught.exception

    def test_no_pattern(self):
        for thing in NO_TEXTS:
            self.assertEqual(self.refused(NoPattern, [(thing, [])]).at, 0)
        self.assertEqual(self.refused(NoPattern, [("1.", [None])]).at, 2)
        self.assertEqual(self.refused(NoPattern, [("11", []), ("1x", [None])]).at, 1)

    def test_unlike(self):
        for x in ("1", "1.1", "111"):
            self.refused(Unlike, [("11", []), (x, [None])])
            self.refused(Unlike, [("11", []), ("10", []), (x, [None]), ("", [])])

    def test_no_write(self):
        for thing in [*ODD_THINGS, ("fall", (1,)), ("fall", [0]), ["fall", (0,)], ("erase", 1), ("fall", ())]:
            self.refused(NoWrite, [("10", [thing])])
            self.refused(NoWrite, [("11", []), ("10", [("fall", (0,)), thing])])

    def test_a_bit_changed_twice(self):
        self.refused(NoWrite, [("11", [("fall", (0,)), ("erase", 0)])])
        self.refused(NoWrite, [("10", [("erase", 0), ("fall", (1,))])])
        self.refused(NoWrite, [("111", [("fall", (0, 1))]), ("111", [("fall", (2,)), ("fall", (1,)), ("erase", 0)])])
        # In another row a bit may be changed again.
        self.assertEqual(forced([("11", [("fall", (0,))]), ("01", [("erase", 0)])]), [])
        self.assertEqual(forced([("1.0", [("fall", (0,)), ("erase", 1)])]), [(1, 0)])

    def test_row_by_row(self):
        self.refused(NoWrite, [("11", [None]), ("", [])])
        self.refused(NoWrite, [("11", [("erase", 0)]), ("1", [])])
        self.refused(NoWrite, [("11", [("fall", (0,)), ("erase", 0)]), ("x", [])])
        self.refused(Unlike, [("11", []), ("1", []), ("", [])])
        self.refused(NoPattern, [("11", []), ("", []), ("1", [])])

    def test_arguments_and_answers_are_kept_apart(self):
        rows = [("01", list(ONE[1]))]
        forced(rows).clear()
        self.assertEqual(forced(rows), [(1, 0)])
        self.assertEqual(order_for(rows), order_for(rows))
        self.assertEqual(rows, [ONE])


if __name__ == "__main__":
    unittest.main()
