"""papersat/signature.py: point 10."""

import unittest

from papersat.errors import BadName, BadSort, NameTaken, PaperError, UnknownName
from papersat.signature import Signature
from papersat.words import RESERVED


def state(signature):
    """All that a signature tells."""
    functions = signature.functions()
    kinds = [(signature.arguments_of(name), signature.result_of(name)) for name in functions]
    return (signature.sorts(), functions, kinds)


class SignatureTest(unittest.TestCase):
    def assert_refused(self, signature, error, attribute, value, name, *rest):
        before = state(signature)
        with self.assertRaises(error) as caught:
            if rest:
                signature.declare_function(name, *rest)
            else:
                signature.declare_sort(name)
        self.assertEqual(getattr(caught.exception, attribute), value)
        self.assertEqual(state(signature), before)

    def test_nothing_declared(self):
        signature = Signature()
        self.assertEqual(signature.sorts(), [])
        self.assertEqual(signature.functions(), [])
        for name in ("truth", "whole", "ratio"):
            self.assertIs(signature.knows_sort(name), True)
            self.assertIs(signature.knows_function(name), False)
        for name in ("thing", "true", "", "Whole", "let"):
            self.assertIs(signature.knows_sort(name), False)
            self.assertIs(signature.knows_function(name), False)

    def test_order_of_declaration(self):
        signature = Signature()
        for name in ("zebra", "apple", "m2", "M2"):
            self.assertIsNone(signature.declare_sort(name))
            self.assertIsNone(signature.declare_function("of_" + name, [name], name))
        self.assertEqual(signature.sorts(), ["zebra", "apple", "m2", "M2"])
        self.assertEqual(signature.functions(), ["of_zebra", "of_apple", "of_m2", "of_M2"])

    def test_knows(self):
        signature = Signature()
        signature.declare_sort("thing")
        signature.declare_function("f", [], "thing")
        self.assertIs(signature.knows_sort("thing"), True)
        self.assertIs(signature.knows_function("thing"), False)
        self.assertIs(signature.knows_sort("f"), False)
        self.assertIs(signature.knows_function("f"), True)

    def test_sorts_of_functions(self):
        signature = Signature()
        signature.declare_sort("thing")
        sorts = ["thing", "whole", "ratio", "whole"]
        signature.declare_function("f", sorts, "truth")
        signature.declare_function("g", tuple(sorts[:1]), "ratio")
        signature.declare_function("c", [], "whole")
        sorts.append("thing")
        self.assertEqual(signature.arguments_of("f"), ("thing", "whole", "ratio", "whole"))
        self.assertEqual(signature.result_of("f"), "truth")
        self.assertEqual(signature.arguments_of("g"), ("thing",))
        self.assertEqual(signature.result_of("g"), "ratio")
        self.assertEqual(signature.arguments_of("c"), ())
        self.assertIs(type(signature.arguments_of("c")), tuple)
        self.assertEqual(signature.result_of("c"), "whole")

    def test_every_result_sort(self):
        signature = Signature()
        signature.declare_sort("thing")
        for sort in ("truth", "whole", "ratio", "thing"):
            signature.declare_function("to_" + sort, ["thing"], sort)
            self.assertEqual(signature.result_of("to_" + sort), sort)

    def test_unknown_function(self):
        signature = Signature()
        signature.declare_sort("thing")
        for name in ("f", "thing", "truth", "", "and"):
            for ask in (signature.arguments_of, signature.result_of):
                with self.assertRaises(UnknownName) as caught:
                    ask(name)
                self.assertEqual(caught.exception.name, name)

    def test_no_names(self):
        signature = Signature()
        for name in ("", "1", "_a", "a b", "a-b", "a\n", "=", "<=", *RESERVED):
            self.assert_refused(signature, BadName, "name", name, name)
            self.assert_refused(signature, BadName, "name", name, name, [], "whole")

    def test_names_that_are_taken(self):
        signature = Signature()
        signature.declare_sort("thing")
        signature.declare_function("f", [], "thing")
        for name in ("thing", "f"):
            self.assert_refused(signature, NameTaken, "name", name, name)
            self.assert_refused(signature, NameTaken, "name", name, name, [], "whole")

    def test_wrong_argument_sorts(self):
        signature = Signature()
        signature.declare_sort("thing")
        signature.declare_function("f", [], "thing")
        self.assert_refused(signature, UnknownName, "name", "no", "g", ["no"], "whole")
        self.assert_refused(signature, UnknownName, "name", "f", "g", ["f"], "whole")
        self.assert_refused(signature, UnknownName, "name", "", "g", ["thing", ""], "whole")
        self.assert_refused(signature, BadSort, "op", "call", "g", ["truth"], "whole")
        self.assert_refused(signature, BadSort, "op", "call", "g", ("whole", "truth", "no"), "whole")
        self.assert_refused(signature, UnknownName, "name", "no", "g", ("whole", "no", "truth"), "whole")
        self.assert_refused(signature, UnknownName, "name", "no", "g", ["no", "nay"], "whole")

    def test_wrong_result(self):
        signature = Signature()
        self.assert_refused(signature, UnknownName, "name", "no", "g", [], "no")
        self.assert_refused(signature, UnknownName, "name", "g", "g", [], "g")
        self.assert_refused(signature, UnknownName, "name", "no", "g", ["no"], "nay")
        self.assert_refused(signature, BadSort, "op", "call", "g", ["truth"], "nay")

    def test_name_comes_first(self):
        signature = Signature()
        signature.declare_sort("thing")
        self.assert_refused(signature, BadName, "name", "let", "let", ["no"], "nay")
        self.assert_refused(signature, NameTaken, "name", "thing", "thing", ["truth"], "nay")

    def test_a_refused_name_is_still_free(self):
        signature = Signature()
        with self.assertRaises(PaperError):
            signature.declare_function("g", ["no"], "whole")
        signature.declare_sort("g")
        self.assertEqual(signature.sorts(), ["g"])

    def test_returned_lists_are_new(self):
        signature = Signature()
        signature.declare_sort("thing")
        signature.declare_function("f", [], "thing")
        signature.sorts().append("no")
        signature.functions().clear()
        self.assertEqual(state(signature), (["thing"], ["f"], [((), "thing")]))

    def test_beyond_the_limits(self):
        signature = Signature()
        name = "n" * 40
        signature.declare_sort(name)
        signature.declare_function("f", [name] * 9, name)
        self.assertEqual(signature.arguments_of("f"), (name,) * 9)
