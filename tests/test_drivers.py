"""Tests of fallenbits.drivers: points 15 and 2."""

import itertools
import unittest

from fallenbits.drivers import Driver
from fallenbits.errors import NoDriver, NoPattern, Unlike
from fallenbits.stores import Store
from fallenbits.writes import is_write
from tests.samples import NO_LISTS, NO_NUMBERS, NO_TEXTS, NO_TUPLES, ODD_THINGS, bits_of, dotted, texts_of

STORE = Store([2, 1, 2], [("**.*.**", "a")], [("a", "b")])
GOOD = [("**.*.**", "b", ("fall", (0, 1))), ("1*.0.*1", "", ("erase", 1))]


def due(rows, x, wish):
    """Return the write that is due by the rows, by what the document says of it."""
    bits = bits_of(x)
    for mask, row_wish, (word, what) in rows:
        if row_wish == wish and all(sign in ("*", bit) for sign, bit in zip(mask, x)):
            if word == "erase" and "0" in x.split(".")[what]:
                return ("erase", what)
            if word == "fall" and any(bits[bit] == "1" for bit in what):
                return ("fall", tuple(bit for bit in what if bits[bit] == "1"))
    return None


class DueTest(unittest.TestCase):
    def test_the_first_row_that_applies(self):
        rows = [("1*", "b", ("fall", (0,))), ("*1", "b", ("fall", (1,))), ("**", "b", ("erase", 0)),
                ("**", "c", ("fall", (0, 1)))]
        driver = Driver(Store([2], [], []), rows)
        self.assertEqual([driver.write_for(x, "b") for x in texts_of((2,))],
                         [("erase", 0), ("fall", (1,)), ("fall", (0,)), ("fall", (0,))])
        self.assertEqual([driver.write_for(x, "c") for x in texts_of((2,))],
                         [None, ("fall", (1,)), ("fall", (0,)), ("fall", (0, 1))])

    def test_rows_that_do_not_change_the_pattern(self):
        rows = [("**.*", "b", ("fall", (0, 2))), ("**.*", "b", ("erase", 1)), ("**.*", "b", ("fall", (1,))),
                ("**.*", "b", ("erase", 0))]
        driver = Driver(Store([2, 1], [], []), rows)
        self.assertEqual([driver.write_for(x, "b") for x in ("11.1", "11.0", "01.1", "01.0", "00.0")],
                         [("fall", (0, 2)), ("fall", (0,)), ("fall", (2,)), ("erase", 1), ("erase", 1)])
        driver = Driver(Store([2, 1], [], []), rows[2:])
        self.assertEqual([driver.write_for(x, "b") for x in ("11.1", "10.1", "00.1")],
                         [("fall", (1,)), ("erase", 0), ("erase", 0)])

    def test_an_erase_of_a_block_in_which_all_bits_stand_is_not_due(self):
        driver = Driver(Store([2, 1], [], []), [("**.*", "b", ("erase", 0))])
        self.assertEqual([driver.write_for(x, "b") for x in texts_of((2, 1))], [("erase", 0)] * 6 + [None] * 2)
        driver = Driver(Store([2, 1], [], []), [("**.*", "b", ("erase", 1))])
        self.assertEqual([driver.write_for(x, "b") for x in texts_of((2, 1))], [("erase", 1), None] * 4)

    def test_a_fall_of_which_some_bits_stand(self):
        driver = Driver(Store([3], [], []), [("***", "b", ("fall", (0, 1, 2)))])
        for x in texts_of((3,)):
            bits = tuple(k for k, bit in enumerate(x) if bit == "1")
            self.assertEqual(driver.write_for(x, "b"), ("fall", bits) if bits else None)

    def test_quiet_rows(self):
        rows = [("1*", "", ("fall", (0,))), ("1*", "b", ("fall", (1,))), ("0*", "b", ("erase", 0))]
        driver = Driver(Store([2], [], []), rows)
        self.assertEqual([driver.write_for(x, "") for x in texts_of((2,))], [None, None, ("fall", (0,)), ("fall", (0,))])
        self.assertEqual([driver.write_for(x, "b") for x in texts_of((2,))],
                         [("erase", 0), ("erase", 0), None, ("fall", (1,))])

    def test_other_wishes(self):
        driver = Driver(STORE, GOOD)
        for wish in ["", "a", "c", "bb", "B", "b ", "*", "nobody", "x" * 5000]:
            self.assertIsNone(driver.write_for("11.1.11", wish))

    def test_a_wish_need_not_be_a_state(self):
        driver = Driver(Store([1], [], []), [("1", "nobody", ("fall", (0,)))])
        self.assertEqual(driver.write_for("1", "nobody"), ("fall", (0,)))

    def test_many_rows_at_all_patterns(self):
        masks = ["".join(signs) for signs in itertools.product("01*", repeat=3)]
        writes = [("erase", 0), ("fall", (0,)), ("fall", (1, 2)), ("erase", 1), ("fall", (0, 2)), ("fall", (0, 1, 2))]
        rows = [(dotted(mask, (1, 2)), ("b", "", "c")[k // 2 % 3], writes[k % 6]) for k, mask in enumerate(masks)]
        for shift in range(len(rows)):
            turned = rows[shift:] + rows[:shift]
            driver = Driver(Store([1, 2], [], []), turned)
            for x in texts_of((1, 2)):
                for wish in ("b", "", "c", "d"):
                    found = driver.write_for(x, wish)
                    self.assertEqual(found, due(turned, x, wish))
                    self.assertTrue(found is None or is_write(x, found))

    def test_no_pattern_then_unlike(self):
        driver = Driver(STORE, GOOD)
        for x, at in [("", 0), ("11.", 3), ("11.1.1x", 6), ("**.*.**", 0), ("1.1.1.1", 5)] + [(x, 0) for x in NO_TEXTS]:
            with self.assertRaises(NoPattern) as caught:
                driver.write_for(x, "b")
            self.assertEqual(caught.exception.at, at)
        for x in ["1", "11.1", "11111", "1.11.11", "11.11.1", "11.1.111"]:
            for wish in ("b", "", "nobody"):
                with self.assertRaises(Unlike):
                    driver.write_for(x, wish)
        with self.assertRaises(Unlike):
            Driver(STORE, []).write_for("1", "b")

    def test_the_same_answer_again(self):
        driver = Driver(STORE, GOOD)
        for _ in range(3):
            self.assertEqual(driver.write_for("01.1.11", "b"), ("fall", (1,)))
            self.assertEqual(driver.write_for("10.0.01", ""), ("erase", 1))


class RowsTest(unittest.TestCase):
    def no_driver(self, at, rows):
        with self.assertRaises(NoDriver) as caught:
            Driver(STORE, rows)
        self.assertEqual(caught.exception.at, at)

    def wrong_row(self, row):
        for at in range(3):
            self.no_driver(at, GOOD[:at] + [row] + GOOD[at:])

    def test_rows_and_len(self):
        driver = Driver(STORE, GOOD)
        self.assertEqual((driver.rows(), len(driver)), (GOOD, 2))
        self.assertEqual((Driver(STORE, []).rows(), len(Driver(STORE, []))), ([], 0))
        self.assertIsNone(Driver(STORE, []).write_for("11.1.11", "b"))
        rows = GOOD[:1] * 3 + GOOD
        self.assertEqual((Driver(STORE, rows).rows(), len(Driver(STORE, rows))), (rows, 5))

    def test_1100_rows_and_1101(self):
        rows = [GOOD[0]] * 1099 + [("**.*.**", "last", ("erase", 2))]
        driver = Driver(STORE, rows)
        self.assertEqual((len(driver), driver.rows()), (1100, rows))
        self.assertEqual(driver.write_for("11.1.10", "last"), ("erase", 2))
        self.no_driver(1100, rows + [GOOD[0]])
        self.no_driver(1100, rows + [None])
        self.no_driver(1100, rows + [GOOD[0]] * 400)
        self.no_driver(1099, rows[:1099] + [None] + [GOOD[0]] * 2)
        self.no_driver(0, [None] + rows)
        self.no_driver(500, rows[:500] + [GOOD] + rows)

    def test_what_is_no_list(self):
        for thing in NO_LISTS + [tuple(GOOD), {0: GOOD[0]}]:
            self.no_driver(None, thing)

    def test_rows_that_are_no_tuples_of_three(self):
        for row in NO_TUPLES + [(), ("**.*.**", "b"), ("**.*.**", ("fall", (0,))), list(GOOD[0]), GOOD[0] + ("",),
                                GOOD[0] + (None,), ("b", "**.*.**", ("fall", (0,))), (GOOD[0],), tuple(GOOD)]:
            self.wrong_row(row)

    def test_wrong_masks(self):
        for mask in NO_TEXTS + ["", "*", "*****", "**.*", "*.**.**", "**.*.*", "**.*.***", "**.*.**.", ".**.*.**",
                                "**.*.*x", "2*.*.**", "** * **", "**..**", "**.*.**.*", "**.*.**\n", "11.1.12"]:
            self.wrong_row((mask, "b", ("fall", (0,))))

    def test_wrong_wishes(self):
        for wish in NO_TEXTS + ["B", "1", "-", "1a", "a_", "a b", " ", "a" * 13, "a\n", "\u00e9", "*", "a.b"]:
            self.wrong_row(("**.*.**", wish, ("fall", (0,))))

    def test_good_wishes(self):
        for wish in ["", "a", "z", "a" * 12, "n-1", "z9-9z"]:
            row = ("**.*.**", wish, ("fall", (0,)))
            self.assertEqual(Driver(STORE, [row]).write_for("11.1.11", wish), ("fall", (0,)))

    def test_wrong_writes(self):
        for write in ODD_THINGS + [
                ("fall",), ("erase",), ("fall", (0,), 0), ("erase", 0, 0), ["fall", (0,)], ["erase", 0], ("Fall", (0,)),
                ("erases", 0), ("", (0,)), ("", 0), (None, (0,)), ("fall", 0), ("erase", (0,)), ((0,), "fall"),
                (0, "erase"), {"fall": (0,)}, (["fall"], (0,)), ("fall", (0,), "")]:
            self.wrong_row(("**.*.**", "b", write))

    def test_wrong_falls(self):
        for bits in [(), (1, 0), (0, 0), (0, 1, 1), (0, 2, 1), (5,), (6,), (0, 5), (-1,), (-5, 0), (-1, 0), (0, 10 ** 59),
                     (-(10 ** 59), 0), [0], [0, 1], ((0,),), (False,), (True,), (0, True), (False, 1), (False, 2),
                     tuple(range(6))] + NO_TUPLES:
            self.wrong_row(("**.*.**", "b", ("fall", bits)))
        for thing in NO_NUMBERS:
            for bits in ((thing,), (thing, 1), (0, thing), (0, thing, 4)):
                self.wrong_row(("**.*.**", "b", ("fall", bits)))

    def test_wrong_erases(self):
        for block in NO_NUMBERS + [3, 4, 5, -1, -3, 10 ** 59]:
            self.wrong_row(("**.*.**", "b", ("erase", block)))

    def test_good_writes(self):
        for many in range(1, 6):
            for bits in itertools.combinations(range(5), many):
                row = ("**.*.**", "b", ("fall", bits))
                self.assertEqual(Driver(STORE, [row]).write_for("11.1.11", "b"), ("fall", bits))
        for block in range(3):
            row = ("**.*.**", "b", ("erase", block))
            self.assertEqual(Driver(STORE, [row]).write_for("00.0.00", "b"), ("erase", block))

    def test_a_row_need_not_change_what_its_mask_matches(self):
        rows = [("00.0.00", "b", ("fall", (0,))), ("11.1.11", "b", ("erase", 0))]
        driver = Driver(STORE, rows)
        self.assertEqual(driver.rows(), rows)
        self.assertEqual([driver.write_for(x, "b") for x in ("00.0.00", "11.1.11")], [None, None])

    def test_the_first_wrong_row_counts(self):
        self.no_driver(1, [GOOD[0], ("**.*.**", "B", ("erase", 0)), None, GOOD[1]])
        self.no_driver(0, [(), None])

    def test_what_was_passed_stays_and_is_copied(self):
        rows = list(GOOD)
        driver = Driver(STORE, rows)
        self.assertEqual(rows, GOOD)
        rows.insert(0, ("**.*.**", "b", ("erase", 2)))
        self.assertEqual((driver.rows(), len(driver)), (GOOD, 2))
        self.assertEqual(driver.write_for("11.1.00", "b"), ("fall", (0, 1)))

    def test_each_list_is_new(self):
        driver = Driver(STORE, GOOD)
        driver.rows().clear()
        driver.rows().append(None)
        self.assertEqual((driver.rows(), len(driver)), (GOOD, 2))
        self.assertEqual(driver.write_for("11.1.11", "b"), ("fall", (0, 1)))


if __name__ == "__main__":
    unittest.main()
