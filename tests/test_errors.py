"""Tests of fallenbits.errors."""

import unittest

from fallenbits import errors
from tests.samples import ODD_THINGS

FIELDS = {
    "NoPattern": ("at",), "Unlike": (), "NoBit": (), "NoWrite": (), "Rise": (), "NotInBox": (),
    "Cut": ("found",), "NoStore": ("part", "at"), "NoDriver": ("at",), "NoState": (),
    "NoEvent": ("at",), "NoOrder": (), "TooMany": (), "NoField": ("part",), "NoRoom": (),
    "Stranded": ("found",), "Foreign": ("found",), "NoText": ("line",), "NoRow": (),
}


class ErrorsTest(unittest.TestCase):
    def test_the_base_is_a_value_error(self):
        self.assertTrue(issubclass(errors.FallenError, ValueError))
        self.assertEqual(errors.FallenError.__bases__, (ValueError,))

    def test_each_error_stands_directly_under_the_base(self):
        for name in FIELDS:
            self.assertEqual(getattr(errors, name).__bases__, (errors.FallenError,), name)

    def test_each_error_is_defined_in_the_file(self):
        for name in ["FallenError", *FIELDS]:
            self.assertEqual(getattr(errors, name).__module__, "fallenbits.errors", name)
            self.assertEqual(getattr(errors, name).__name__, name)

    def test_none_is_one_of_the_others(self):
        for name in FIELDS:
            for other in FIELDS:
                is_one = issubclass(getattr(errors, name), getattr(errors, other))
                self.assertEqual(is_one, name == other, (name, other))

    def test_each_is_caught_as_a_fallen_error_and_as_a_value_error(self):
        for name, fields in FIELDS.items():
            given = [7 for field in fields] or ["a text"]
            for base in (errors.FallenError, ValueError):
                with self.assertRaises(base):
                    raise getattr(errors, name)(*given)

    def test_one_field_holds_any_value(self):
        for name, fields in FIELDS.items():
            if len(fields) == 1:
                for value in ODD_THINGS + [10 ** 5000, "x" * 6000]:
                    error = getattr(errors, name)(value)
                    self.assertIs(getattr(error, fields[0]), value, name)

    def test_the_fields_of_no_store_hold_any_values(self):
        for part in ODD_THINGS:
            for at in ODD_THINGS:
                error = errors.NoStore(part, at)
                self.assertIs(error.part, part)
                self.assertIs(error.at, at)

    def test_the_others_take_one_text(self):
        for name, fields in FIELDS.items():
            if not fields:
                self.assertEqual(str(getattr(errors, name)("what is wrong")), "what is wrong", name)

    def test_fields_survive_being_raised(self):
        with self.assertRaises(errors.NoStore) as caught:
            raise errors.NoStore("rules", None)
        self.assertEqual((caught.exception.part, caught.exception.at), ("rules", None))
        with self.assertRaises(errors.Cut) as caught:
            raise errors.Cut("10.1")
        self.assertEqual(caught.exception.found, "10.1")


if __name__ == "__main__":
    unittest.main()
