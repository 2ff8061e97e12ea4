"""Tests of fallenbits.patterns: points 5, 6 and 2."""

import itertools
import re
import unittest

from fallenbits.devices import Device
from fallenbits.errors import NoBit, NoPattern, Unlike
from fallenbits.patterns import Pattern
from tests.samples import NO_NUMBERS, NO_TEXTS, bits_of, dotted, shapes, sizes_of, texts_of

EXAMPLES = [("", 0), ("1.", 2), ("1..0", 2), ("12", 1), ("1.1.1.1", 5), ("1" * 120 + ".", 120)]
LONGEST = [
    "1" * 120, "0" * 120, "10" * 60, "1" * 119 + ".0", "0." + "1" * 119, "1" * 60 + "." + "0" * 60,
    "1" * 40 + "." + "0" * 40 + "." + "1" * 40, "1.0." + "1" * 118, "1" * 118 + ".0.1",
]


def can_begin(text):
    """Tell whether some pattern begins with a short text."""
    return re.fullmatch(r"|[01]+(\.[01]+){0,2}|[01]+\.|[01]+\.[01]+\.", text) is not None


class SyntaxTest(unittest.TestCase):
    def good(self, text):
        self.assertIs(Pattern.is_pattern(text), True, text)
        self.assertEqual(str(Pattern(text)), text)

    def wrong(self, thing, at):
        self.assertIs(Pattern.is_pattern(thing), False, thing)
        with self.assertRaises(NoPattern) as caught:
            Pattern(thing)
        self.assertEqual(caught.exception.at, at, thing)
        self.assertIs(int, caught.exception.at.__class__)

    def test_patterns_of_one_two_and_three_blocks(self):
        for sizes in shapes(4):
            for text in texts_of(sizes):
                self.good(text)

    def test_patterns_of_just_120_bits(self):
        for text in LONGEST:
            self.assertEqual(len(bits_of(text)), 120)
            self.good(text)
            self.assertEqual(len(Pattern(text)), 120)

    def test_the_examples(self):
        for text, at in EXAMPLES:
            self.wrong(text, at)

    def test_all_short_texts(self):
        for many in range(7):
            for signs in itertools.product("01.2", repeat=many):
                text = "".join(signs)
                if re.fullmatch(r"[01]+(\.[01]+){0,2}", text):
                    self.good(text)
                else:
                    at = max(k for k in range(many + 1) if can_begin(text[:k]))
                    self.wrong(text, at)

    def test_a_sign_that_cannot_stand_in_each_place(self):
        for sign in ["2", "*", " ", "\n", "a", "-", "\u0661", "\u00b9", ",", "\x00"]:
            for at in range(5):
                good = "1010.1"
                self.wrong(good[:at] + sign + good[at + 1:], at)
            self.wrong("1010.1" + sign, 6)
            self.wrong(sign, 0)
            self.wrong("1" * 119 + sign, 119)
            self.wrong("1" * 120 + sign, 120)

    def test_dots(self):
        for text, at in [(".", 0), (".1", 0), ("..", 0), ("1.", 2), ("1.1.", 4), ("1..1", 2), ("1.1..1", 4),
                         ("10.01.11.", 8), ("1.1.1.", 5), ("1.1.1.1", 5), ("11.0.1..", 6), ("1..", 2)]:
            self.wrong(text, at)

    def test_a_first_wrong_sign_counts(self):
        for text, at in [("1x.", 1), ("1..x", 2), ("x..", 0), ("1.1.1.x", 5), ("1.1x1.1.1", 3)]:
            self.wrong(text, at)

    def test_more_than_120_bits(self):
        self.wrong("1" * 121, 120)
        self.wrong("1" * 5000, 120)
        self.wrong("1" * 60 + "." + "0" * 61, 121)
        self.wrong("1" * 40 + "." + "0" * 40 + "." + "1" * 41, 122)
        self.wrong("1" * 120 + ".1", 120)
        self.wrong("1" * 60 + "." + "0" * 60 + ".", 121)
        self.wrong("1" * 60 + "." + "0" * 60 + ".1", 121)
        self.wrong("1.1." + "1" * 119, 122)
        self.wrong("1" * 119 + ".00", 121)

    def test_more_signs_are_needed(self):
        self.wrong("1" * 119 + ".", 120)
        self.wrong("1." + "1" * 118 + ".", 121)

    def test_what_is_no_text(self):
        for thing in NO_TEXTS + [10, 101, ["1", "0"], ("1",), {"1": "0"}, [1, 0], ("10", "1")]:
            self.wrong(thing, 0)

    def test_no_pattern_of_a_pattern_text_in_a_list(self):
        self.wrong(["10.1"], 0)

    def test_class_values(self):
        self.assertEqual((Pattern.BITS, Pattern.BLOCKS), (120, 3))
        self.assertEqual((Pattern("1").BITS, Pattern("1").BLOCKS), (120, 3))


class OperatorsTest(unittest.TestCase):
    def test_all_pairs_of_equal_sizes(self):
        for sizes in [(1,), (2,), (3,), (1, 1), (2, 1), (1, 1, 1), (1, 2, 1)]:
            for one in texts_of(sizes):
                for other in texts_of(sizes):
                    self.compare(one, other)
                    self.combine(one, other, sizes)

    def compare(self, one, other):
        p, q = Pattern(one), Pattern(other)
        mine = {k for k, bit in enumerate(bits_of(one)) if bit == "1"}
        others = {k for k, bit in enumerate(bits_of(other)) if bit == "1"}
        self.assertIs(p <= q, mine <= others)
        self.assertIs(p < q, mine < others)
        self.assertIs(p >= q, mine >= others)
        self.assertIs(p > q, mine > others)
        self.assertIs(p == q, mine == others)
        self.assertIs(p != q, mine != others)

    def combine(self, one, other, sizes):
        p, q = Pattern(one), Pattern(other)
        pairs = list(zip(bits_of(one), bits_of(other)))
        both = dotted(["1" if a == "1" and b == "1" else "0" for a, b in pairs], sizes)
        some = dotted(["1" if a == "1" or b == "1" else "0" for a, b in pairs], sizes)
        just = dotted(["1" if a != b else "0" for a, b in pairs], sizes)
        for found, expected in [(p & q, both), (p | q, some), (p ^ q, just)]:
            self.assertIsInstance(found, Pattern)
            self.assertEqual(str(found), expected)
            self.assertEqual(found.sizes, sizes)
        self.assertEqual((str(p), str(q)), (one, other))

    def test_long_patterns(self):
        one, other = Pattern("1" * 119 + "0"), Pattern("1" * 120)
        self.assertTrue(one < other and one <= other and not one > other and not one >= other)
        self.assertEqual(str(one ^ other), "0" * 119 + "1")
        first = Pattern("0" + "1" * 119)
        self.assertFalse(first <= one or one <= first or first < one or one > first)
        self.assertEqual(str(first & one), "0" + "1" * 118 + "0")
        self.assertEqual(first | one, other)

    def test_other_sizes_are_unlike(self):
        for one, other in [("11", "1"), ("11", "1.1"), ("1.11", "11.1"), ("111", "11.1"), ("1.1.1", "11.1"),
                           ("10", "01.1"), ("1" * 120, "1" * 60 + "." + "1" * 60), ("1", "1.1"), ("00", "0.0")]:
            for a, b in [(Pattern(one), Pattern(other)), (Pattern(other), Pattern(one))]:
                for act in (lambda: a <= b, lambda: a < b, lambda: a >= b, lambda: a > b,
                            lambda: a & b, lambda: a | b, lambda: a ^ b):
                    with self.assertRaises(Unlike):
                        act()

    def test_equality_across_sizes_and_other_values(self):
        for one, other in [("11", "1.1"), ("1.11", "11.1"), ("1", "11"), ("0", "00")]:
            self.assertIs(Pattern(one) == Pattern(other), False)
            self.assertIs(Pattern(one) != Pattern(other), True)
        for thing in ["1", 1, True, None, [], ["1"], ("1",), {}, (1,), Device("1")]:
            self.assertIs(Pattern("1") == thing, False)
            self.assertIs(Pattern("1") != thing, True)
            self.assertIs(thing == Pattern("1"), False)
            self.assertIs(thing != Pattern("1"), True)

    def test_in_place_operators_leave_the_old_pattern(self):
        p = old = Pattern("110.1")
        p &= Pattern("011.1")
        self.assertEqual((str(p), str(old)), ("010.1", "110.1"))
        p = old
        p |= Pattern("011.0")
        self.assertEqual((str(p), str(old)), ("111.1", "110.1"))
        p = old
        p ^= Pattern("011.1")
        self.assertEqual((str(p), str(old)), ("101.0", "110.1"))
        self.assertIsInstance(p, Pattern)
        self.assertIsNot(p, old)
        self.assertEqual(old.sizes, (3, 1))

    def test_in_place_operators_raise_unlike_and_leave_the_pattern(self):
        p = Pattern("11.0")
        with self.assertRaises(Unlike):
            p &= Pattern("110")
        with self.assertRaises(Unlike):
            p |= Pattern("11")
        with self.assertRaises(Unlike):
            p ^= Pattern("1.10")
        self.assertEqual(str(p), "11.0")

    def test_the_same_answer_again(self):
        p, q = Pattern("10.1"), Pattern("11.0")
        for _ in range(3):
            self.assertEqual((str(p & q), str(p | q), str(p ^ q)), ("10.0", "11.1", "01.1"))
            self.assertEqual((p <= q, p == q, len(p), p[1], 1 in p), (False, False, 3, 0, False))


class LookingTest(unittest.TestCase):
    def test_small_patterns(self):
        for sizes in shapes(4):
            for text in texts_of(sizes):
                p, bits = Pattern(text), bits_of(text)
                self.assertEqual(len(p), len(bits))
                self.assertIs(bool(p), "1" in bits)
                self.assertEqual(p.standing, bits.count("1"))
                self.assertEqual(p.sizes, sizes)
                self.assertIsInstance(p.sizes, tuple)
                self.assertEqual([p[i] for i in range(len(p))], [int(bit) for bit in bits])
                self.assertEqual([i in p for i in range(len(p))], [bit == "1" for bit in bits])
                self.assertEqual(str(p), text)

    def test_a_bit_is_a_number_and_not_a_truth(self):
        self.assertIs(Pattern("10")[0].__class__, int)
        self.assertIs(Pattern("10")[1].__class__, int)

    def test_no_bit(self):
        for text in ["1", "10.1", "1.1.0", "1" * 120]:
            p = Pattern(text)
            for i in [len(p), len(p) + 1, -1, -len(p), 10 ** 59, -(10 ** 59)] + NO_NUMBERS:
                with self.assertRaises(NoBit):
                    p[i]
                self.assertIs(i in p, False)

    def test_truths_are_no_numbers_of_bits(self):
        p = Pattern("11")
        self.assertIs(True in p, False)
        self.assertIs(False in p, False)
        self.assertIs(1 in p, True)
        for i in (True, False):
            with self.assertRaises(NoBit):
                p[i]

    def test_truth_of_blocks(self):
        self.assertIs(bool(Pattern("0.0.1")), True)
        self.assertIs(bool(Pattern("0.0.0")), False)
        self.assertIs(bool(Pattern("1.0")), True)
        self.assertIs(bool(Pattern("0" * 120)), False)
        self.assertIs(bool(Pattern("0" * 119 + "1")), True)

    def test_the_last_bit_of_a_long_pattern(self):
        p = Pattern("0" * 60 + "." + "0" * 59 + "1")
        self.assertEqual((p[119], p[118], p[60], p[59], p[0]), (1, 0, 0, 0, 0))
        self.assertTrue(119 in p and 120 not in p)
        self.assertEqual(p.standing, 1)


class ChangingTest(unittest.TestCase):
    def test_fallen(self):
        for sizes in shapes(3):
            for text in texts_of(sizes):
                for many in range(4):
                    for bits in itertools.product(range(sum(sizes)), repeat=many):
                        p = Pattern(text)
                        found = p.fallen(list(bits))
                        signs = ["0" if k in bits else bit for k, bit in enumerate(bits_of(text))]
                        self.assertEqual(str(found), dotted(signs, sizes))
                        self.assertIsInstance(found, Pattern)
                        self.assertEqual(str(p), text)

    def test_fallen_at_the_ends_of_a_long_pattern(self):
        p = Pattern("1" * 60 + "." + "1" * 60)
        self.assertEqual(str(p.fallen([119, 0, 60, 59, 0])),
                         "0" + "1" * 58 + "0." + "0" + "1" * 58 + "0")

    def test_fallen_raises_no_bit(self):
        p = Pattern("10.1")
        for wrong in [3, 4, -1, -3, 10 ** 59] + NO_NUMBERS:
            for bits in ([wrong], [wrong, 0, 1], [0, wrong, 1], [0, 1, wrong]):
                with self.assertRaises(NoBit):
                    p.fallen(bits)
        self.assertEqual(str(p), "10.1")

    def test_fallen_leaves_its_list(self):
        bits = [2, 0, 2]
        p = Pattern("101")
        self.assertEqual([str(p.fallen(bits)), str(p.fallen(bits))], ["000", "000"])
        self.assertEqual(bits, [2, 0, 2])

    def test_erased(self):
        for sizes in shapes(4):
            for text in texts_of(sizes):
                p = Pattern(text)
                for block, size in enumerate(sizes):
                    parts = text.split(".")
                    parts[block] = "1" * size
                    found = p.erased(block)
                    self.assertEqual(str(found), ".".join(parts))
                    self.assertIsInstance(found, Pattern)
                    self.assertEqual(str(p), text)

    def test_erased_raises_no_bit(self):
        for text in ["0", "0.0", "0.0.0", "00.1"]:
            p = Pattern(text)
            blocks = len(sizes_of(text))
            for block in [blocks, blocks + 1, 3, -1, -blocks, 10 ** 59] + NO_NUMBERS:
                with self.assertRaises(NoBit):
                    p.erased(block)
            self.assertEqual(str(p), text)

    def test_full(self):
        for sizes in shapes(5) + [(120,), (60, 60), (40, 40, 40), (118, 1, 1), (1, 1, 118), (1, 119)]:
            p = Pattern.full(*sizes)
            self.assertIsInstance(p, Pattern)
            self.assertEqual(str(p), ".".join("1" * size for size in sizes))
            self.assertEqual(p.sizes, sizes)

    def test_full_raises_no_pattern(self):
        wrong = [(), (0,), (121,), (-1,), (60, 61), (61, 60), (120, 1), (1, 120), (40, 40, 41), (1, 1, 1, 1),
                 (0, 1), (1, 0), (1, 1, 0), (1, 0, 1), (121, -1), (130, -20), (1, 1, 1, 0), (10 ** 59,),
                 (1, 10 ** 59), (-(10 ** 59),)]
        for sizes in wrong:
            with self.assertRaises(NoPattern) as caught:
                Pattern.full(*sizes)
            self.assertEqual(caught.exception.at, 0)

    def test_full_of_what_are_no_numbers(self):
        for thing in NO_NUMBERS:
            for sizes in ((thing,), (thing, 1), (1, thing), (1, thing, 1), (1, 1, thing)):
                with self.assertRaises(NoPattern) as caught:
                    Pattern.full(*sizes)
                self.assertEqual(caught.exception.at, 0)


if __name__ == "__main__":
    unittest.main()
