"""Z1: all error classes with their fields."""

import itertools
import unittest

from tests.values import ANY_VALUES, repr_deep
from twobricks import errors
from twobricks.errors import BrickError

FIELDS = {
    "BadBatch": (), "BadBox": ("error",), "BadKinds": ("error",), "BadOrder": ("given",), "BadPaper": ("given",),
    "BadSide": ("given",), "BadText": ("place",), "Busy": (), "NoAxis": ("given",), "NoKind": ("given",),
    "NoNumber": ("number",), "NoSeam": ("axis", "at"), "NoVersion": ("given",), "NotFilled": ("reason",),
    "NothingToUndo": (), "Rejected": ("index",), "TooLarge": ("axis",), "TooManyEdits": (), "Unfit": (),
    "UnlikeAxes": (),
}


def many_arguments(fields):
    """Tuples of values for the fields: every value for one field, neighbours among the values for two."""
    if len(fields) < 2:
        return itertools.product(ANY_VALUES, repeat=len(fields))
    return zip(ANY_VALUES, ANY_VALUES[1:] + ANY_VALUES[:1])


class ErrorsTest(unittest.TestCase):
    def check(self, error, name, fields, values):
        self.assertIs(error.__class__, getattr(errors, name))
        self.assertIsInstance(error, BrickError)
        self.assertIsInstance(error, ValueError)
        self.assertEqual(repr_deep(vars(error)), repr_deep(dict(zip(fields, values))))
        for field, value in zip(fields, values):
            self.assertIs(getattr(error, field), value)

    def test_all_are_there_and_no_others(self):
        found = [name for name, value in vars(errors).items() if isinstance(value, type)]
        self.assertEqual(sorted(found), sorted(list(FIELDS) + ["BrickError"]))
        self.assertEqual(len(FIELDS), 20)

    def test_each_directly_under_brick_error(self):
        self.assertEqual(BrickError.__bases__, (ValueError,))
        for name in FIELDS:
            self.assertEqual(getattr(errors, name).__bases__, (BrickError,), name)

    def test_brick_error_itself(self):
        error = BrickError()
        self.assertIs(error.__class__, BrickError)
        self.assertIsInstance(error, ValueError)
        for name in FIELDS:
            self.assertNotIsInstance(error, getattr(errors, name))

    def test_of_no_other_class(self):
        for name, fields in FIELDS.items():
            error = getattr(errors, name)(*fields)
            for other in FIELDS:
                self.assertEqual(isinstance(error, getattr(errors, other)), name == other)

    def test_by_place(self):
        for name, fields in FIELDS.items():
            for values in many_arguments(fields):
                self.check(getattr(errors, name)(*values), name, fields, values)

    def test_by_name_in_each_order(self):
        for name, fields in FIELDS.items():
            for values in many_arguments(fields):
                for order in itertools.permutations(list(zip(fields, values))):
                    self.check(getattr(errors, name)(**dict(order)), name, fields, values)

    def test_no_seam_by_place_and_by_name(self):
        self.check(errors.NoSeam(at=2, axis=1), "NoSeam", ("axis", "at"), (1, 2))
        self.check(errors.NoSeam(1, at=2), "NoSeam", ("axis", "at"), (1, 2))
        self.check(errors.NoSeam(1, 2), "NoSeam", ("axis", "at"), (1, 2))

    def test_raised_and_caught(self):
        for name, fields in FIELDS.items():
            for caught in (getattr(errors, name), BrickError, ValueError):
                with self.assertRaises(caught) as held:
                    raise getattr(errors, name)(*fields)
                self.check(held.exception, name, fields, fields)

    def test_wrong_arguments(self):
        for name, fields in FIELDS.items():
            made = getattr(errors, name)
            with self.assertRaises(TypeError):
                made(**{field: 0 for field in fields}, other=0)
            if fields:
                with self.assertRaises(TypeError):
                    made(*fields[1:])
                with self.assertRaises(TypeError):
                    made(*fields, 0)


if __name__ == "__main__":
    unittest.main()
