"""The files of the package keep to the rules of LANGUAGE.md, as far as tests/language.py sees them."""

import unittest

from tests import language


class LanguageTest(unittest.TestCase):
    def test_each_file(self):
        for name, tree in language.trees().items():
            for look in (
                language.imports, language.module_level, language.statements,
                language.expressions, language.names,
            ):
                with self.subTest(file=name, rules=look.__doc__):
                    self.assertEqual(look(name, tree), [])

    def test_each_text(self):
        for name, text in language.sources().items():
            for look in (language.sizes, language.words):
                with self.subTest(file=name, rules=look.__doc__):
                    self.assertEqual(look(name, text), [])

    def test_whole_package(self):
        trees = language.trees()
        self.assertEqual(language.import_circles(trees), [])
        self.assertEqual(language.attributes(trees), [])
        self.assertLessEqual(len(trees), 100)
        self.assertIn("__init__.py", trees)


if __name__ == "__main__":
    unittest.main()
