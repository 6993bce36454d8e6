"""The error classes: the interface, and points 6 and 68."""

import unittest

from firerest import errors
from tests.support import FIELDS, SHEET_ERRORS

VALUES = (0, 1, 2, 7, -1, -5, 10 ** 30, -10 ** 30, 10 ** 40, 12345678901234567890123456789012345)

ALL = dict(FIELDS)
ALL["SheetError"] = ("line",)
for sheet_error in SHEET_ERRORS:
    ALL[sheet_error] = ("line",)


def samples(name):
    """Return objects of the error class, made by position and by names."""
    fields = ALL[name]
    made = getattr(errors, name)
    found = []
    for first in VALUES:
        for second in VALUES:
            values = (first, second)[:len(fields)]
            found.append((values, made(*values)))
            found.append((values, made(**dict(zip(fields, values)))))
    return found


class ErrorsTest(unittest.TestCase):

    def test_fields(self):
        for name in ALL:
            for values, error in samples(name):
                held = tuple(getattr(error, field) for field in ALL[name])
                self.assertEqual(held, values, name)

    def test_fields_by_names_in_any_order(self):
        error = errors.NoLine(b=3, a=-2)
        self.assertEqual((error.a, error.b), (-2, 3))
        error = errors.SizesDiffer(two=10 ** 30, one=0)
        self.assertEqual((error.one, error.two), (0, 10 ** 30))

    def test_raised_and_caught(self):
        for name in ALL:
            for values, error in samples(name)[:6]:
                for kind in (getattr(errors, name), errors.FirerestError, ValueError):
                    with self.assertRaises(kind) as held:
                        raise error
                    self.assertIs(held.exception, error)
                    kept = tuple(getattr(held.exception, field) for field in ALL[name])
                    self.assertEqual(kept, values)

    def test_bases(self):
        self.assertIn(ValueError, errors.FirerestError.__bases__)
        for name in ALL:
            base = errors.SheetError if name in SHEET_ERRORS else errors.FirerestError
            self.assertIn(base, getattr(errors, name).__bases__, name)

    def test_kinds(self):
        for name in ALL:
            for _, error in samples(name):
                self.assertIsInstance(error, errors.FirerestError)
                self.assertIsInstance(error, ValueError)
                below = name in SHEET_ERRORS or name == "SheetError"
                self.assertIs(isinstance(error, errors.SheetError), below)
                for other in ALL:
                    if other not in (name, "SheetError"):
                        self.assertNotIsInstance(error, getattr(errors, other))

    def test_each_class_is_defined_there(self):
        for name in list(ALL) + ["FirerestError"]:
            self.assertEqual(getattr(errors, name).__module__, "firerest.errors")
            self.assertEqual(getattr(errors, name).__name__, name)


if __name__ == "__main__":
    unittest.main()
