"""papersat/models.py: points 21 to 24."""

import unittest

from papersat.errors import BadModel, BadText, PaperError, UnknownName
from papersat.models import Model, model_text, read_model
from papersat.signature import Signature
from tests.support import new_signature, some_model

WRONG = {
    "truth": (1, 0, "true", "", (True,), (1, 1), -1, 7),
    "whole": (True, False, "5", "", (5,), (5, 1), ()),
    "ratio": (
        0, 1, True, "1/2", (2, 4), (0, 2), (1, 0), (0, 0), (1, -2), (-1, -2), (1,), (1, 2, 3), (), (True, 1), (1, True), (1, "2"),
        (False, True), (6, 3), (0, -1),
    ),
    "thing": (-1, True, False, "a", (0,), (0, 1), -(10 ** 20)),
}
RIGHT = {
    "truth": (True, False),
    "whole": (0, 1, -1, 10 ** 60),
    "ratio": ((0, 1), (1, 2), (-7, 3), (5, 1), (10 ** 60, 10 ** 60 + 1)),
    "thing": (0, 1, 10 ** 60),
}


def state(model):
    """All that a model tells of its functions."""
    names = model.signature.functions()
    return [(name, model.rows_of(name), model.default_of(name)) for name in names]


class ModelTest(unittest.TestCase):
    def setUp(self):
        self.signature = new_signature()
        self.model = Model(self.signature)

    def assert_refused(self, error, name, method, *passed):
        before = state(self.model)
        with self.assertRaises(PaperError) as caught:
            method(*passed)
        self.assertIs(type(caught.exception), error)
        self.assertEqual(caught.exception.name, name)
        self.assertEqual(state(self.model), before)

    def test_nothing_set(self):
        self.assertIs(self.model.signature, self.signature)
        for name, default in (("p", False), ("x", 0), ("s", (0, 1)), ("a", 0), ("home", 0), ("is_old", False), ("g", (0, 1))):
            self.assertEqual(self.model.default_of(name), default)
            self.assertIs(type(self.model.default_of(name)), type(default))
            self.assertEqual(self.model.rows_of(name), [])
        self.assertEqual(self.model.look("f", [5]), 0)
        self.assertIs(self.model.look("is_old", (3,)), False)
        self.assertEqual(self.model.look("g", [(1, 2), 3]), (0, 1))

    def test_rows_and_defaults(self):
        model = self.model
        self.assertIsNone(model.give("f", [5], 7))
        self.assertIsNone(model.give("f", (-2,), 3))
        self.assertIsNone(model.otherwise("f", -9))
        self.assertEqual(model.look("f", [5]), 7)
        self.assertEqual(model.look("f", (5,)), 7)
        self.assertEqual(model.look("f", [-2]), 3)
        self.assertEqual(model.look("f", [6]), -9)
        self.assertEqual(model.default_of("f"), -9)
        self.assertEqual(model.rows_of("f"), [((-2,), 3), ((5,), 7)])
        self.assertEqual(model.rows_of("x"), [])

    def test_values_that_are_like_nothing(self):
        model = self.model
        model.otherwise("f", 4)
        model.give("f", [1], 0)
        model.otherwise("is_old", True)
        model.give("is_old", [2], False)
        self.assertEqual(model.look("f", [1]), 0)
        self.assertIs(model.look("is_old", [2]), False)
        self.assertIs(model.look("is_old", [3]), True)
        model.otherwise("is_old", False)
        self.assertIs(model.look("is_old", [3]), False)

    def test_set_again(self):
        model = self.model
        model.give("f", [5], 7)
        model.give("f", (5,), 8)
        model.otherwise("f", 1)
        model.otherwise("f", 2)
        self.assertEqual(model.rows_of("f"), [((5,), 8)])
        self.assertEqual(model.default_of("f"), 2)

    def test_constants(self):
        self.model.give("x", [], 5)
        self.model.otherwise("x", 6)
        self.assertEqual(self.model.look("x", ()), 5)
        self.assertEqual(self.model.rows_of("x"), [((), 5)])
        self.assertEqual(self.model.default_of("x"), 6)

    def test_rows_in_the_order_of_tuples(self):
        for arguments in ([(1, 2), 5], [(-1, 1), 9], [(1, 2), -5], [(1, 3), 0], [(0, 1), 10]):
            self.model.give("g", arguments, (1, 1))
        wanted = [((-1, 1), 9), ((0, 1), 10), ((1, 2), -5), ((1, 2), 5), ((1, 3), 0)]
        self.assertEqual(self.model.rows_of("g"), [(arguments, (1, 1)) for arguments in wanted])

    def test_functions_declared_later(self):
        self.signature.declare_function("late", ["thing"], "ratio")
        self.assertEqual(self.model.look("late", [0]), (0, 1))
        self.model.give("late", [0], (1, 2))
        self.assertEqual(self.model.look("late", [0]), (1, 2))
        self.assertIn("late 0 is 1/2", model_text(self.model))

    def test_lists_are_copied_and_new(self):
        arguments = [(1, 2), 3]
        self.model.give("g", arguments, (5, 1))
        arguments[1] = 4
        self.model.look("g", arguments)
        self.assertEqual(arguments, [(1, 2), 4])
        self.assertEqual(self.model.rows_of("g"), [(((1, 2), 3), (5, 1))])
        self.model.rows_of("g").clear()
        self.assertEqual(self.model.look("g", [(1, 2), 3]), (5, 1))

    def test_unknown_functions(self):
        for name in ("no", "thing", "", "truth"):
            self.assert_refused(UnknownName, name, self.model.give, name, [], 5)
            self.assert_refused(UnknownName, name, self.model.give, name, [True, 9], "x")
            self.assert_refused(UnknownName, name, self.model.otherwise, name, 5)
            self.assert_refused(UnknownName, name, self.model.look, name, [])
            self.assert_refused(UnknownName, name, self.model.rows_of, name)
            self.assert_refused(UnknownName, name, self.model.default_of, name)

    def test_wrong_counts(self):
        for name, arguments in (("x", [1]), ("f", []), ("f", (1, 2)), ("g", [(1, 2)]), ("g", [(1, 2), 3, 4]), ("h", [0])):
            value = (1, 2) if name == "g" else 5
            self.assert_refused(BadModel, name, self.model.give, name, arguments, value)

    def test_values_of_each_sort(self):
        signature = Signature()
        signature.declare_sort("thing")
        for sort in RIGHT:
            signature.declare_function("to_" + sort, [], sort)
            if sort != "truth":
                signature.declare_function("of_" + sort, ["whole", sort], "truth")
        self.model = model = Model(signature)
        for sort in RIGHT:
            for value in RIGHT[sort]:
                model.give("to_" + sort, [], value)
                self.assertEqual(model.look("to_" + sort, []), value)
                model.otherwise("to_" + sort, value)
                self.assertEqual(model.default_of("to_" + sort), value)
                if sort != "truth":
                    model.give("of_" + sort, [3, value], True)
                    self.assertIs(model.look("of_" + sort, (3, value)), True)
            for value in WRONG[sort]:
                self.assert_refused(BadModel, "to_" + sort, model.give, "to_" + sort, [], value)
                self.assert_refused(BadModel, "to_" + sort, model.otherwise, "to_" + sort, value)
                if sort != "truth":
                    self.assert_refused(BadModel, "of_" + sort, model.give, "of_" + sort, (3, value), True)

    def test_each_place_is_looked_at(self):
        for arguments in ([(2, 4), 3], [(1, 2), True], [3, (1, 2)]):
            self.assert_refused(BadModel, "g", self.model.give, "g", arguments, (1, 2))
        self.assert_refused(BadModel, "h", self.model.give, "h", [-1, 0], 0)
        self.assert_refused(BadModel, "h", self.model.give, "h", [0, -1], 0)


class ModelTextTest(unittest.TestCase):
    def setUp(self):
        self.signature = Signature()
        self.signature.declare_sort("thing")
        self.signature.declare_function("f", ["whole"], "whole")
        self.signature.declare_function("is", ["ratio", "thing"], "truth")
        self.signature.declare_function("else", [], "ratio")
        self.signature.declare_function("c", [], "thing")

    def assert_refused(self, text, error, value):
        with self.assertRaises(PaperError) as caught:
            read_model(self.signature, text)
        self.assertIs(type(caught.exception), error, text)
        found = caught.exception.place if error is BadText else caught.exception.name
        self.assertEqual(found, value, text)

    def test_text(self):
        model = Model(self.signature)
        self.assertEqual(model_text(model), "f else 0\nis else false\nelse else 0/1\nc else 0")
        model.give("f", [3], -1)
        model.give("f", [-3], 4)
        model.otherwise("f", 8)
        model.give("is", [(1, 2), 1], True)
        model.give("is", [(1, 2), 0], False)
        model.give("is", [(-1, 2), 7], True)
        model.give("else", [], (-3, 7))
        model.give("c", [], 5)
        self.assertEqual(model_text(model), "\n".join([
            "f -3 is 4", "f 3 is -1", "f else 8", "is -1/2 7 is true", "is 1/2 0 is false", "is 1/2 1 is true", "is else false",
            "else is -3/7", "else else 0/1", "c is 5", "c else 0",
        ]))

    def test_no_functions(self):
        signature = Signature()
        signature.declare_sort("thing")
        self.assertEqual(model_text(Model(signature)), "")

    def test_reading_back(self):
        for seed in range(5):
            signature = new_signature()
            model = some_model(seed, signature)
            text = model_text(model)
            read = read_model(signature, text)
            self.assertIs(read.signature, signature)
            self.assertEqual(state(read), state(model))
            self.assertEqual(model_text(read), text)
            backwards = "\n".join(reversed(text.split("\n")))
            self.assertEqual(state(read_model(signature, backwards)), state(model))

    def test_values_are_of_their_kinds(self):
        model = read_model(self.signature, "is 1/2 1 is true\nis else true\nf 1 is 1\nelse is 2/4")
        self.assertIs(model.look("is", [(1, 2), 1]), True)
        self.assertIs(model.default_of("is"), True)
        self.assertIs(type(model.look("f", [1])), int)
        self.assertEqual(model.look("else", []), (1, 2))

    def test_lines_left_out_and_any_order(self):
        self.assertEqual(state(read_model(self.signature, "")), state(Model(self.signature)))
        model = read_model(self.signature, "c else 4\nf else 2\nf 5 is 0\nelse is 1/2\nis 2/4 0 is true\nf -5 is 9")
        self.assertEqual(state(model), [
            ("f", [((-5,), 9), ((5,), 0)], 2), ("is", [(((1, 2), 0), True)], False), ("else", [((), (1, 2))], (0, 1)), ("c", [], 4),
        ])

    def test_functions_called_is_and_else(self):
        signature = Signature()
        signature.declare_function("is", [], "whole")
        signature.declare_function("else", ["whole"], "whole")
        model = read_model(signature, "is is 5\nis else 6\nelse else 7\nelse 8 is 9")
        self.assertEqual(state(model), [("is", [((), 5)], 6), ("else", [((8,), 9)], 7)])
        self.assertEqual(read_model(signature, model_text(model)).rows_of("else"), [((8,), 9)])

    def test_unknown_first_words(self):
        for text, word in (
            ("no else 5", "no"), ("thing else 5", "thing"), (" f else 5", ""), ("\n", ""), ("f else 5\n", ""), (" ", ""),
            ("f else 5\n\nc else 1", ""), ("F else 5", "F"), ("5", "5"), ("f else 5\nno", "no"), ("f(5) is 3", "f(5)"),
        ):
            self.assert_refused(text, UnknownName, word)

    def test_wrong_lines(self):
        for line in (
            "f", "f ", "f 5", "f else", "f else ", "f is 5", "f 5 is", "f 5 is ", "f 5 6 is 7", "f  is 5", "f 5  is 6", "f 5 is  6",
            "f 5 is 6 ", "f else 5 ", "f else  5", "f 5 else 6", "f else else 5", "f 5 = 6", "f 5 Is 6", "f Else 5", "f 5 6",
            "f else is 5", "f else x", "f else true", "f else 1/2", "f else 05", "f else -0", "f else +5", "f else 5_0", "f x is 5",
            "f 1/1 is 5", "f 5 is x", "f 5 is 1/1", "f 5 is -0", "f 5 is true", "f -0 is 5", "f is is 5", "f 5 is is",
            "is else 1", "is else 0", "is else True", "is else TRUE", "is else x", "is 1/2 is true", "is 1/2 0 1 is true",
            "is 1 0 is true", "is 1/2 -1 is true", "is 1/0 0 is true", "is 1/2 0 is 1", "is 1/2 1/1 is true", "is 0 1/2 is true",
            "is 1/-2 0 is true", "is 01/2 0 is true", "is is true", "is else", "else is 5", "else is 1/0", "else else 5", "else else",
            "else 1/2 is 1/2", "else else is 1/2", "else 5", "c is -1", "c else -1", "c is 1/1", "c is true", "c 0 is 0", "c 5", "c is",
            "c is -5", "c else", "c - 5", "c else 0 0",
        ):
            self.assert_refused(line, BadText, 0)
            self.assert_refused("f 77 is 5\nc is 3\n" + line, BadText, 2)

    def test_what_is_set_twice(self):
        for first, again in (
            ("f else 5", "f else 5"), ("f else 5", "f else 6"), ("f 5 is 1", "f 5 is 1"), ("f 5 is 1", "f 5 is 2"),
            ("is 1/2 0 is true", "is 2/4 0 is true"), ("is 0/1 0 is true", "is 0/7 0 is false"), ("c is 1", "c is 1"),
            ("else else 0/1", "else else 0/1"), ("c else 0", "c else 0"), ("else is 1/2", "else is 1/3"),
        ):
            self.assert_refused(f"{first}\n{again}", BadText, 1)
            self.assert_refused(f"f 99 is 0\n{first}\nf 98 is 0\n{again}\nno", BadText, 3)

    def test_first_error_in_order_of_lines(self):
        self.assert_refused("f else x\nno else 5", BadText, 0)
        self.assert_refused("no else 5\nf else x", UnknownName, "no")
        self.assert_refused("f else 5\nno x y z\nf else 5", UnknownName, "no")

    def test_long_numbers(self):
        big = "9" * 60
        text = f"f -{big} is {big}\nelse is -{big}/{big[:-1]}8\nc is {big}"
        model = read_model(self.signature, text)
        self.assertEqual(model.look("f", [1 - 10 ** 60]), 10 ** 60 - 1)
        self.assertEqual(model_text(model).split("\n")[0], f"f -{big} is {big}")
        huge = "1" + "0" * 5000
        model = read_model(self.signature, f"f {huge} is -{huge}\nelse else 1/{huge}")
        self.assertEqual(model.look("f", [10 ** 5000]), -10 ** 5000)
        self.assertEqual(model_text(model).split("\n")[0], f"f {huge} is -{huge}")

    def test_many_lines(self):
        text = "\n".join([f"f {number} is {number + 1}" for number in range(5000)] + ["f else 0"])
        model = read_model(self.signature, text)
        self.assertEqual(len(model.rows_of("f")), 5000)
        self.assertEqual(model_text(model).split("\n")[:5001], text.split("\n"))
