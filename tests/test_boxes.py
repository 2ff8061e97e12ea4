"""Tests of fallenbits.boxes: points 7 and 2."""

import unittest

from fallenbits.boxes import box, box_size, in_box, torn, walk_box
from fallenbits.errors import NoBit, NoPattern, TooMany, Unlike
from tests.samples import NO_NUMBERS, NO_TEXTS, bits_of, box_of, dotted, shapes, texts_of

LONG = "1" * 100 + "." + "1" * 20


def with_unlike(many):
    """Return a long pattern that differs from LONG at so many bits, on both sides of the dot."""
    late = many // 2
    return "1" * (100 - (many - late)) + "0" * (many - late) + "." + "0" * late + "1" * (20 - late)


def walked(one, other):
    return list(walk_box(one, other))


def in_box_of_one(one, other):
    return in_box(one, one, other)


def torn_early(one, other):
    return torn(one, other, [0])


OF_TWO = [box, walked, box_size, in_box_of_one, torn_early]


class BoxTest(unittest.TestCase):
    def test_the_example(self):
        self.assertEqual(box("11.0", "10.1"), ["10.0", "10.1", "11.0", "11.1"])
        self.assertEqual(list(walk_box("11.0", "10.1")), ["10.0", "10.1", "11.0", "11.1"])

    def test_all_small_pairs(self):
        for sizes in shapes(4):
            for one in texts_of(sizes):
                for other in texts_of(sizes):
                    expected = box_of(one, other)
                    self.assertEqual(box(one, other), expected)
                    self.assertEqual(list(walk_box(one, other)), expected)
                    self.assertEqual(box_size(one, other), len(expected))

    def test_no_bit_differs(self):
        for text in ["1", "0.1.0", LONG]:
            self.assertEqual(box(text, text), [text])
            self.assertEqual(list(walk_box(text, text)), [text])
            self.assertEqual(box_size(text, text), 1)

    def test_one_bit_differs(self):
        other = with_unlike(1)
        self.assertEqual(box(LONG, other), [other, LONG])
        self.assertEqual(box(other, LONG), [other, LONG])
        self.assertEqual(box_size(LONG, other), 2)

    def test_ten_bits_differ(self):
        other = with_unlike(10)
        found = box(LONG, other)
        self.assertEqual(len(found), 1024)
        self.assertEqual(found, sorted(set(found)))
        self.assertEqual((found[0], found[-1]), (other, LONG))
        for z in found:
            self.assertEqual((z[:95], z[100:101], z[106:]), ("1" * 95, ".", "1" * 15))
        self.assertEqual(list(walk_box(LONG, other)), found)
        self.assertEqual(box_size(LONG, other), 1024)

    def test_ten_bits_that_differ_both_ways(self):
        found = box("1010101010", "0101010101")
        self.assertEqual(found, texts_of((10,)))

    def test_eleven_bits_differ(self):
        for one, other in [(LONG, with_unlike(11)), ("1" * 11, "0" * 11), ("10101010101", "01010101010")]:
            with self.assertRaises(TooMany):
                box(one, other)
            walk = walk_box(one, other)
            with self.assertRaises(TooMany):
                next(walk)
            self.assertEqual(box_size(one, other), 2048)
            self.assertIs(in_box(one, one, other), True)

    def test_box_size_has_no_limit(self):
        self.assertEqual(box_size("1" * 120, "0" * 120), 2 ** 120)
        self.assertEqual(box_size("1" * 60 + "." + "0" * 60, "0" * 60 + "." + "1" * 60), 2 ** 120)
        self.assertEqual(box_size(LONG, with_unlike(12)), 2 ** 12)

    def test_in_box(self):
        for sizes in shapes(3):
            for one in texts_of(sizes):
                for other in texts_of(sizes):
                    inside = box_of(one, other)
                    for z in texts_of(sizes):
                        self.assertIs(in_box(z, one, other), z in inside)

    def test_in_box_has_no_limit(self):
        self.assertIs(in_box("10" * 60, "1" * 120, "0" * 120), True)
        self.assertIs(in_box("10" * 60, "1" * 119 + "1", "0" * 119 + "1"), False)
        self.assertIs(in_box("0" + "1" * 119, "1" * 120, "1" + "0" * 119), False)

    def test_each_list_is_new(self):
        found = box("11", "00")
        found.append("x")
        found[0] = "y"
        self.assertEqual(box("11", "00"), ["00", "01", "10", "11"])
        self.assertEqual(list(walk_box("11", "00")), ["00", "01", "10", "11"])
        self.assertEqual(list(walk_box("11", "00")), ["00", "01", "10", "11"])


class TornTest(unittest.TestCase):
    def test_the_example(self):
        self.assertEqual(torn("11.0", "00.0", [1]), "01.0")

    def test_all_small_cases(self):
        for sizes in shapes(3):
            many = sum(sizes)
            for one in texts_of(sizes):
                for other in texts_of(sizes):
                    for chosen in range(2 ** many):
                        early = [k for k in range(many) if chosen >> k & 1]
                        pairs = enumerate(zip(bits_of(one), bits_of(other)))
                        expected = dotted([a if k in early else b for k, (a, b) in pairs], sizes)
                        self.assertEqual(torn(one, other, early), expected)
                        self.assertEqual(torn(one, other, early[::-1] + early), expected)
                        self.assertTrue(in_box(expected, one, other))

    def test_none_all_and_repeated(self):
        self.assertEqual(torn("11.0", "00.1", []), "00.1")
        self.assertEqual(torn("11.0", "00.1", [0, 1, 2]), "11.0")
        self.assertEqual(torn("11.0", "00.1", [2, 2, 2]), "00.0")
        self.assertEqual(torn("11.0", "00.1", [0] * 1500), "10.1")

    def test_long_patterns(self):
        one, other = "1" * 60 + "." + "1" * 60, "0" * 60 + "." + "0" * 60
        self.assertEqual(torn(one, other, [0, 119]), "1" + "0" * 59 + "." + "0" * 59 + "1")
        self.assertEqual(torn(one, other, [60, 59]), "0" * 59 + "1." + "1" + "0" * 59)

    def test_no_bit(self):
        for wrong in [3, 4, -1, -3, 10 ** 59] + NO_NUMBERS:
            for early in ([wrong], [wrong, 0, 1], [0, wrong, 1], [0, 1, wrong]):
                with self.assertRaises(NoBit):
                    torn("11.0", "00.0", early)

    def test_the_list_stays(self):
        early = [2, 0, 2]
        self.assertEqual(torn("11.0", "00.1", early), "10.0")
        self.assertEqual(torn("11.0", "00.1", early), "10.0")
        self.assertEqual(early, [2, 0, 2])


class ErrorsTest(unittest.TestCase):
    def no_pattern(self, at, call):
        with self.assertRaises(NoPattern) as caught:
            call()
        self.assertEqual(caught.exception.at, at)

    def test_no_pattern_in_each_place(self):
        for act in OF_TWO:
            self.no_pattern(2, lambda: act("1.", "1.1"))
            self.no_pattern(2, lambda: act("1.1", "1."))
            for thing in NO_TEXTS:
                self.no_pattern(0, lambda: act(thing, "1"))
                self.no_pattern(0, lambda: act("1", thing))

    def test_no_pattern_of_the_first_wrong_argument(self):
        for act in OF_TWO:
            self.no_pattern(2, lambda: act("1.", "1x"))
            self.no_pattern(1, lambda: act("1x", "1."))
        self.no_pattern(3, lambda: in_box("111x", "1.", "1x"))
        self.no_pattern(2, lambda: in_box("111", "1.", "1x"))
        self.no_pattern(1, lambda: in_box("111", "11", "1x"))
        self.no_pattern(1, lambda: in_box("1x", "111", "1."))
        self.no_pattern(3, lambda: in_box("111", "111x", "1."))

    def test_unlike(self):
        for act in OF_TWO:
            for one, other in [("1", "11"), ("1.1", "11"), ("1.11", "11.1"), ("1.1.1", "111")]:
                with self.assertRaises(Unlike):
                    act(one, other)
        for z, one, other in [("1", "11", "11"), ("11", "1", "11"), ("11", "11", "1"), ("1.1", "11", "11"),
                              ("11", "1.1", "1.1"), ("11", "1.1", "11"), ("11", "11", "1.1")]:
            with self.assertRaises(Unlike):
                in_box(z, one, other)

    def test_no_pattern_ahead_of_unlike(self):
        for act in OF_TWO:
            self.no_pattern(2, lambda: act("11", "1."))
            self.no_pattern(2, lambda: act("1.", "11"))
        self.no_pattern(2, lambda: in_box("1", "11", "1."))
        self.no_pattern(0, lambda: in_box("1", "11", None))

    def test_no_pattern_and_unlike_ahead_of_no_bit(self):
        self.no_pattern(2, lambda: torn("1.", "11", [9]))
        self.no_pattern(2, lambda: torn("11", "1.", [9]))
        self.no_pattern(2, lambda: torn("11", "1.", [True]))
        for early in ([9], [True], [None], ["x"]):
            with self.assertRaises(Unlike):
                torn("11", "1.1", early)

    def test_no_pattern_and_unlike_ahead_of_too_many(self):
        for act in (box, walked):
            self.no_pattern(12, lambda: act("1" * 11, "0" * 12 + "x"))
            self.no_pattern(11, lambda: act("1" * 11 + "x", "0" * 11))
            with self.assertRaises(Unlike):
                act("1" * 11, "0" * 12)
            with self.assertRaises(Unlike):
                act("1" * 12, "0" * 11 + ".0")


if __name__ == "__main__":
    unittest.main()
