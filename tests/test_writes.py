"""Tests of fallenbits.writes: points 3, 8 and 2."""

import unittest

from fallenbits.errors import NoPattern, NoWrite, TooMany
from fallenbits.writes import all_writes, end, is_write, single_writes, write_box
from tests.samples import (
    NO_NUMBERS, NO_TEXTS, NO_TUPLES, ODD_THINGS, bits_of, box_of, end_of, erases_of, falls_of, shapes, sizes_of,
    texts_of,
)

X = "101.01.00"
NO_FALLS = [
    ("fall", ()), ("fall", (2, 0)), ("fall", (0, 0)), ("fall", (0, 2, 2)), ("fall", (4, 2, 0)), ("fall", (0, 4, 2)),
    ("fall", (1,)), ("fall", (0, 1)), ("fall", (1, 2)), ("fall", (0, 3, 4)), ("fall", (4, 5)), ("fall", (6,)),
    ("fall", (7,)), ("fall", (8,)), ("fall", (0, 7)), ("fall", (0, 10 ** 59)), ("fall", (-1,)), ("fall", (-7,)),
    ("fall", (-3, 0)), ("fall", (-5, 0, 2)), ("fall", (False,)), ("fall", (False, 2)), ("fall", (0, True)),
    ("fall", (True,)), ("fall", [0]), ("fall", [0, 2]), ("fall", 0), ("fall", None), ("fall", "0"),
    ("fall", {0: 1}), ("fall", ((0,),)), ("fall", ("0",)), ("fall", (0, None)), ("fall", ([0],)), ("fall", ""),
    ("fall", []), ("fall", {}),
]
NO_ERASES = [
    ("erase", 3), ("erase", 4), ("erase", -1), ("erase", -2), ("erase", -3), ("erase", True), ("erase", False),
    ("erase", 10 ** 59), ("erase", (0,)), ("erase", [0]), ("erase", "0"), ("erase", None), ("erase", ()),
    ("erase", {}),
]
OTHER_FORMS = [
    ["fall", (0,)], ["erase", 0], ("fall",), ("erase",), (), ("fall", (0,), 0), ("erase", 0, 0), ("erase", 0, None),
    ("Fall", (0,)), ("FALL", (0,)), ("falls", (0,)), ("fal", (0,)), ("", (0,)), ("fall ", (0,)), ("Erase", 0),
    ("erases", 0), ("ERASE", 0), ("", 0), (None, (0,)), (0, (0,)), (True, 0), (("fall",), (0,)), (["fall"], (0,)),
    ("fall", 1), ("erase", (1,)), ((0,), "fall"), (0, "erase"), ("rise", (1,)), ("write", (0,)),
    (("fall", (0,)),), [("fall", (0,))], {"fall": (0,)}, "fall", "erase", "fall 0",
]


class IsWriteTest(unittest.TestCase):
    def test_all_small_patterns(self):
        for sizes in shapes(4):
            every = falls_of("1" * sum(sizes)) + [("erase", block) for block in range(4)]
            for x in texts_of(sizes):
                writes = falls_of(x) + erases_of(x)
                for write in every:
                    self.assertIs(is_write(x, write), write in writes, (x, write))

    def test_falls_of_one_bit_and_of_several(self):
        for bits in [(0,), (2,), (4,), (0, 2), (0, 4), (2, 4), (0, 2, 4)]:
            self.assertIs(is_write(X, ("fall", bits)), True)

    def test_erases_of_each_block(self):
        for block in range(3):
            self.assertIs(is_write(X, ("erase", block)), True)

    def test_what_is_no_write(self):
        for thing in NO_FALLS + NO_ERASES + OTHER_FORMS + ODD_THINGS:
            self.assertIs(is_write(X, thing), False, thing)

    def test_an_odd_value_in_each_place(self):
        for thing in ODD_THINGS:
            if thing != "fall":
                self.assertIs(is_write(X, (thing, (0,))), False, thing)
            if thing != "erase":
                self.assertIs(is_write(X, (thing, 0)), False, thing)
        for thing in NO_TUPLES:
            self.assertIs(is_write(X, ("fall", thing)), False, thing)
        for thing in NO_NUMBERS:
            self.assertIs(is_write(X, ("erase", thing)), False, thing)
            for bits in ((thing,), (thing, 2), (0, thing), (0, thing, 4)):
                self.assertIs(is_write(X, ("fall", bits)), False, bits)

    def test_no_erase_of_a_block_in_which_all_bits_stand(self):
        for block in range(3):
            parts = ["0", "0", "0"]
            parts[block] = "11"
            x = ".".join(parts)
            self.assertEqual([is_write(x, ("erase", b)) for b in range(3)], [b != block for b in range(3)])
        self.assertIs(is_write("1" * 120, ("erase", 0)), False)
        self.assertIs(is_write("1" * 119 + "0", ("erase", 0)), True)

    def test_long_patterns(self):
        self.assertIs(is_write("1" * 120, ("fall", tuple(range(120)))), True)
        self.assertIs(is_write("1" * 120, ("fall", tuple(range(121)))), False)
        self.assertIs(is_write("1" * 120, ("fall", tuple(range(119, -1, -1)))), False)
        self.assertIs(is_write("0" + "1" * 119, ("fall", tuple(range(1, 120)))), True)
        self.assertIs(is_write("0" + "1" * 119, ("fall", tuple(range(120)))), False)


class EndTest(unittest.TestCase):
    def test_all_small_patterns(self):
        for sizes in shapes(4):
            for x in texts_of(sizes):
                for write in falls_of(x) + erases_of(x):
                    after = end_of(x, write)
                    self.assertEqual(end(x, write), after)
                    self.assertEqual(write_box(x, write), box_of(x, after))

    def test_examples(self):
        self.assertEqual(end(X, ("fall", (0, 2, 4))), "000.00.00")
        self.assertEqual(end(X, ("erase", 0)), "111.01.00")
        self.assertEqual(end(X, ("erase", 1)), "101.11.00")
        self.assertEqual(end(X, ("erase", 2)), "101.01.11")
        self.assertEqual(write_box(X, ("fall", (0, 4))), ["001.00.00", "001.01.00", "101.00.00", "101.01.00"])
        self.assertEqual(write_box(X, ("erase", 2)), ["101.01.00", "101.01.01", "101.01.10", "101.01.11"])
        self.assertEqual(end("1" * 60 + "." + "0" * 60, ("erase", 1)), "1" * 60 + "." + "1" * 60)
        self.assertEqual(end("1" * 120, ("fall", tuple(range(120)))), "0" * 120)

    def test_what_is_no_write(self):
        for act in (end, write_box):
            for thing in NO_FALLS + NO_ERASES + OTHER_FORMS + ODD_THINGS:
                with self.assertRaises(NoWrite):
                    act(X, thing)
            with self.assertRaises(NoWrite):
                act("11.00", ("erase", 0))

    def test_ten_bits_and_eleven_that_change(self):
        found = write_box("1" * 12, ("fall", tuple(range(1, 11))))
        self.assertEqual(found, ["1" + z + "1" for z in texts_of((10,))])
        self.assertEqual(len(write_box("00." + "0" * 10, ("erase", 1))), 1024)
        self.assertEqual(len(write_box("1" * 20 + "0" * 10, ("erase", 0))), 1024)
        for x, write in [("1" * 11, ("fall", tuple(range(11)))), ("0" * 11, ("erase", 0)),
                         ("1" * 60 + "." + "1" * 60, ("fall", tuple(range(55, 66)))),
                         ("1.1" + "0" * 11, ("erase", 1))]:
            with self.assertRaises(TooMany):
                write_box(x, write)
            self.assertEqual(end(x, write), end_of(x, write))
            self.assertIs(is_write(x, write), True)

    def test_each_list_is_new(self):
        found = write_box("11", ("fall", (0, 1)))
        found.append("x")
        self.assertEqual(write_box("11", ("fall", (0, 1))), ["00", "01", "10", "11"])


class ListsTest(unittest.TestCase):
    def test_all_small_patterns(self):
        for sizes in shapes(5):
            for x in texts_of(sizes):
                falls, erases = falls_of(x), erases_of(x)
                single = [("fall", (at,)) for at, bit in enumerate(bits_of(x)) if bit == "1"]
                self.assertEqual(single_writes(x), single + erases)
                self.assertEqual(single_writes(x, True), single + erases)
                self.assertEqual(single_writes(x, erases=False), single)
                self.assertEqual(list(all_writes(x)), falls + erases)
                self.assertEqual(list(all_writes(x, True)), falls + erases)
                self.assertEqual(list(all_writes(x, erases=False)), falls)

    def test_the_order(self):
        self.assertEqual(list(all_writes("11.01")), [
            ("fall", (0,)), ("fall", (0, 1)), ("fall", (0, 1, 3)), ("fall", (0, 3)), ("fall", (1,)),
            ("fall", (1, 3)), ("fall", (3,)), ("erase", 1)])
        self.assertEqual(single_writes("10.01"), [("fall", (0,)), ("fall", (3,)), ("erase", 0), ("erase", 1)])

    def test_no_bit_stands(self):
        self.assertEqual(single_writes("00.0"), [("erase", 0), ("erase", 1)])
        self.assertEqual(single_writes("00.0", erases=False), [])
        self.assertEqual(list(all_writes("00.0")), [("erase", 0), ("erase", 1)])
        self.assertEqual(list(all_writes("00.0", erases=False)), [])

    def test_all_bits_stand(self):
        self.assertEqual(single_writes("1.1"), [("fall", (0,)), ("fall", (1,))])
        self.assertEqual(list(all_writes("1.1")), [("fall", (0,)), ("fall", (0, 1)), ("fall", (1,))])

    def test_ten_bits_and_eleven_that_stand(self):
        found = list(all_writes("1" * 10 + "0" * 100))
        self.assertEqual(found, falls_of("1" * 10) + [("erase", 0)])
        self.assertEqual(len(list(all_writes("1" * 5 + "." + "1" * 5, erases=False))), 1023)
        for x in ["1" * 11, "1" * 6 + ".0" + "1" * 5, "1" * 120, "0." + "1" * 11]:
            for erases in (True, False):
                walk = all_writes(x, erases)
                with self.assertRaises(TooMany):
                    next(walk)

    def test_single_writes_have_no_limit(self):
        self.assertEqual(single_writes("1" * 120), [("fall", (bit,)) for bit in range(120)])
        self.assertEqual(single_writes("0" * 119 + "1"), [("fall", (119,)), ("erase", 0)])

    def test_each_list_is_new(self):
        found = single_writes("10")
        found.clear()
        self.assertEqual(single_writes("10"), [("fall", (0,)), ("erase", 0)])
        self.assertEqual(list(all_writes("10")), list(all_writes("10")))

    def test_what_is_listed_is_a_write(self):
        for sizes in shapes(4):
            for x in texts_of(sizes):
                for write in list(all_writes(x)) + single_writes(x):
                    self.assertIs(is_write(x, write), True)


class ErrorsTest(unittest.TestCase):
    ACTS = [
        lambda x: is_write(x, ("fall", (0,))), lambda x: is_write(x, None), lambda x: end(x, ("fall", (0,))),
        lambda x: end(x, None), lambda x: write_box(x, ("erase", 0)), lambda x: write_box(x, ("fall", (9,))),
        single_writes, lambda x: single_writes(x, erases=False), lambda x: list(all_writes(x)),
        lambda x: list(all_writes(x, erases=False)),
    ]

    def test_no_pattern_comes_first(self):
        wrong = [("", 0), ("1.", 2), ("1..0", 2), ("12", 1), ("1.1.1.1", 5), ("1" * 121, 120), ("0" * 120 + ".", 120)]
        for act in self.ACTS:
            for x, at in wrong + [(thing, 0) for thing in NO_TEXTS]:
                with self.assertRaises(NoPattern) as caught:
                    act(x)
                self.assertEqual(caught.exception.at, at)

    def test_no_write_comes_ahead_of_too_many(self):
        for write in [("fall", tuple(range(12))), ("fall", (0, *range(2, 13))), ("erase", 1), ("erase", 0),
                      ("fall", tuple(range(10, -1, -1))), ("fall", list(range(11)))]:
            with self.assertRaises(NoWrite):
                write_box("1" * 11, write)

    def test_sizes_of_ends(self):
        for x in ["10.1", "1.1.0", "01"]:
            for write in all_writes(x):
                self.assertEqual(sizes_of(end(x, write)), sizes_of(x))


if __name__ == "__main__":
    unittest.main()
