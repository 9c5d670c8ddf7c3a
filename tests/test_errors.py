"""The errors of the package."""

import unittest

import nextkind.errors as errors
from helpers import DEEP, NO_NAMES, same

FIELDS = {
    "BadName": ("value",), "BadNumber": ("value",), "BadTable": ("value",), "BadPick": ("at",), "BadRule": ("kind",),
    "BadQuota": ("part",), "BadDeed": ("at",), "NoKind": ("kind",), "Unlimited": ("kind",), "Lacking": ("bay",),
    "NotThere": ("kind", "bay"), "Misfit": ("part",), "Barred": ("kind",), "Refused": ("kind", "bay"),
    "Shut": ("bay",), "Never": ("value",), "NotRefused": ("at",), "Unlike": ("part",), "TooMany": ("what", "most"),
    "BadText": ("line", "word"), "BadLine": ("word",),
}


class Errors(unittest.TestCase):
    def test_there_are_just_these(self):
        found = [name for name, value in vars(errors).items() if isinstance(value, type)]
        self.assertEqual(sorted(found), sorted(list(FIELDS) + ["NextError"]))

    def test_base(self):
        self.assertEqual(errors.NextError.__bases__, (ValueError,))
        for name in FIELDS:
            self.assertEqual(getattr(errors, name).__bases__, (errors.NextError,), name)

    def test_none_is_below_another(self):
        for name in FIELDS:
            for other in FIELDS:
                if name != other:
                    self.assertFalse(issubclass(getattr(errors, name), getattr(errors, other)), (name, other))

    def test_made_by_position_and_by_name(self):
        values = NO_NAMES + ["a", 5, DEEP, ValueError("x")]
        for name, fields in FIELDS.items():
            made = getattr(errors, name)
            for at in range(len(values)):
                told = [values[(at + step) % len(values)] for step in range(len(fields))]
                for error in (made(*told), made(**dict(zip(fields, told)))):
                    self.assertEqual(sorted(vars(error)), sorted(fields))
                    for field, value in zip(fields, told):
                        self.assertTrue(same(getattr(error, field), value), (name, field))

    def test_names_in_any_order(self):
        error = errors.NotThere(bay="b", kind="a")
        self.assertEqual((error.kind, error.bay), ("a", "b"))
        error = errors.TooMany("caps", most=20)
        self.assertEqual((error.what, error.most), ("caps", 20))
        error = errors.BadText(word=2, line=1)
        self.assertEqual((error.line, error.word), (1, 2))

    def test_wrong_many_arguments(self):
        for name, fields in FIELDS.items():
            made = getattr(errors, name)
            self.assertRaises(TypeError, made)
            self.assertRaises(TypeError, made, *(list(fields) + [1]))

    def test_raised_and_caught(self):
        for name, fields in FIELDS.items():
            made = getattr(errors, name)
            for caught in (made, errors.NextError, ValueError, Exception):
                with self.assertRaises(caught):
                    raise made(*fields)


if __name__ == "__main__":
    unittest.main()
