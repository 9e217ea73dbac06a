"""[3]: the errors."""

import unittest

from lockerwall import errors
from lockerwall.errors import WallError
from tests.values import ODD

WITH_STRING = ("NoDays", "NoMoments", "NoKind", "NoCare", "NoSizes", "NoSize", "NothingToUndo")
WITH_FIELD = {"NoRule": "moment", "NoMoment": "moment", "NoDeed": "index", "NoParcel": "number", "NoBox": "number",
              "NoText": "line"}


class ErrorsTest(unittest.TestCase):
    def test_base(self):
        self.assertEqual(WallError.__bases__, (ValueError,))
        self.assertEqual(str(WallError("so")), "so")

    def test_direct_subclasses(self):
        for name in [*WITH_STRING, *WITH_FIELD]:
            with self.subTest(name=name):
                self.assertEqual(getattr(errors, name).__bases__, (WallError,))
                self.assertEqual(getattr(errors, name).__module__, "lockerwall.errors")

    def test_errors_with_a_string(self):
        for name in WITH_STRING:
            with self.subTest(name=name):
                error = getattr(errors, name)("so it is")
                self.assertEqual(str(error), "so it is")
                with self.assertRaises(ValueError):
                    raise error

    def test_errors_with_a_field(self):
        for name, field in WITH_FIELD.items():
            for value in ODD:
                with self.subTest(name=name, value=value):
                    self.assertIs(getattr(getattr(errors, name)(value), field), value)
                    self.assertIs(getattr(getattr(errors, name)(**{field: value}), field), value)

    def test_a_field_is_no_name_of_another_error(self):
        self.assertFalse(hasattr(errors.NoDeed(1), "number"))
        self.assertFalse(hasattr(errors.NoParcel(1), "index"))

    def test_message_of_an_error_with_a_field(self):
        for name in WITH_FIELD:
            self.assertTrue(str(getattr(errors, name)(object())))

    def test_a_field_that_cannot_be_shown(self):
        class Hidden:
            def __repr__(self):
                raise RuntimeError
            __str__ = __repr__
        hidden = Hidden()
        for name, field in WITH_FIELD.items():
            error = getattr(errors, name)(hidden)
            self.assertIs(getattr(error, field), hidden)
            self.assertTrue(str(error))
