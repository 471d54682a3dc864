"""Tests of ruleengine.errors."""

import unittest

from ruleengine import errors
from tests.helpers import Case, repeated

FIELDS = {
    "InvalidForm": ("part",),
    "InvalidSchema": ("fault", "item"),
    "InvalidTree": ("part",),
    "InvalidPath": ("value",),
    "InvalidPart": ("part",),
    "InvalidPattern": ("fault", "item"),
    "InvalidRule": ("spot", "fault", "item"),
    "WrongTree": ("place",),
    "OtherSchema": (),
    "NoCommon": ("reason",),
    "TooLarge": ("limit",),
    "UnknownName": ("word",),
    "InvalidAnswer": ("part",),
    "InvalidPlan": ("part",),
    "InvalidFlow": ("fault", "word"),
    "InvalidPoint": ("value",),
    "NoDeed": ("place",),
    "InvalidGuard": ("word", "item"),
    "InvalidTemplate": ("word", "fault", "item"),
    "WrongFinding": ("spot",),
    "Overlap": ("one", "other"),
    "InvalidOrder": ("value",),
    "TooLong": ("limit",),
    "NotPlain": ("word",),
    "LimitExceeded": ("limit",),
    "NothingToUndo": (),
}
WITHOUT_ITEM = ("InvalidSchema", "InvalidPattern", "InvalidRule", "InvalidTemplate")


class ErrorsTest(Case):

    def test_base_class_is_a_value_error(self):
        self.assertEqual(errors.RuleengineError.__bases__, (ValueError,))

    def test_all_are_direct_subclasses(self):
        for name in FIELDS:
            with self.subTest(name):
                self.assertEqual(getattr(errors, name).__bases__, (errors.RuleengineError,))

    def test_all_are_defined_there(self):
        for name in [*FIELDS, "RuleengineError"]:
            with self.subTest(name):
                self.assertEqual(getattr(errors, name).__module__, "ruleengine.errors")

    def test_fields_by_position(self):
        for name, fields in FIELDS.items():
            with self.subTest(name):
                values = [[field] for field in fields]
                error = getattr(errors, name)(*values)
                for field, value in zip(fields, values):
                    self.assertIs(getattr(error, field), value)

    def test_fields_by_name_in_another_order(self):
        for name, fields in FIELDS.items():
            with self.subTest(name):
                values = {field: [field] for field in reversed(fields)}
                error = getattr(errors, name)(**values)
                for field, value in values.items():
                    self.assertIs(getattr(error, field), value)

    def test_item_is_none_if_it_is_not_passed(self):
        for name in WITHOUT_ITEM:
            with self.subTest(name):
                values = [[field] for field in FIELDS[name][:-1]]
                error = getattr(errors, name)(*values)
                self.assertIsNone(error.item)
                for field, value in zip(FIELDS[name], values):
                    self.assertIs(getattr(error, field), value)

    def test_fields_may_be_long_values(self):
        value = repeated(tuple)
        for name, fields in FIELDS.items():
            with self.subTest(name):
                error = getattr(errors, name)(*[value for _ in fields])
                for field in fields:
                    self.assertTrue(getattr(error, field) is value)

    def test_they_are_caught_as_the_base_class(self):
        for name, fields in FIELDS.items():
            with self.subTest(name):
                with self.assertRaises(errors.RuleengineError):
                    raise getattr(errors, name)(*fields)


if __name__ == "__main__":
    unittest.main()
