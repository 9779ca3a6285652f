"""papersat/errors.py."""

import unittest

from papersat import errors

WITH_ATTRIBUTE = {
    "BadName": "name",
    "NameTaken": "name",
    "UnknownName": "name",
    "BadSort": "op",
    "BadNode": "number",
    "BadText": "place",
    "BadModel": "name",
    "BadLiteral": "literal",
}
WITHOUT_ATTRIBUTE = ("BadRatio", "NoLevel", "NoAnswer")


class ErrorsTest(unittest.TestCase):
    def test_base_class(self):
        self.assertEqual(errors.PaperError.__bases__, (ValueError,))

    def test_direct_subclasses(self):
        for name in [*WITH_ATTRIBUTE, *WITHOUT_ATTRIBUTE]:
            self.assertEqual(getattr(errors, name).__bases__, (errors.PaperError,), name)

    def test_attributes(self):
        for name, attribute in WITH_ATTRIBUTE.items():
            for value in ("x", "", 0, -7, 10 ** 40):
                error = getattr(errors, name)(value)
                self.assertEqual(getattr(error, attribute), value, name)
                self.assertIsInstance(str(error), str)

    def test_without_attribute(self):
        for name in WITHOUT_ATTRIBUTE:
            self.assertIsInstance(getattr(errors, name)(), errors.PaperError)
