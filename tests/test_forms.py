"""papersat/forms.py: points 7 to 9."""

import unittest
from fractions import Fraction

from papersat.errors import BadSort
from papersat.forms import (
    base_form, constant_form, form_plus, form_times, form_value, literal_form, term_form,
)
from tests.support import call, new_bank

ZERO = (0, 1)
ONE = (1, 1)

FORMS = [
    ((0, 1), ()),
    ((3, 4), ()),
    ((0, 1), ((3, (1, 1)),)),
    ((-1, 2), ((3, (-1, 1)), (7, (2, 3)))),
    ((1, 2), ((3, (1, 1)), (5, (1, 2)), (9, (-7, 5)))),
    ((1, 1), ((5, (-1, 2)), (7, (-2, 3)), (12, (10 ** 18, 3)))),
]
WEIGHTS = [(0, 1), (1, 1), (-1, 1), (2, 3), (-5, 7), (10 ** 17, 9)]
POINTS = [
    {3: (0, 1), 5: (0, 1), 7: (0, 1), 9: (0, 1), 12: (0, 1)},
    {3: (1, 2), 5: (-3, 4), 7: (5, 1), 9: (7, 11), 12: (1, 10 ** 18)},
]


def plain_value(form, values):
    total = Fraction(*form[0])
    for node, coefficient in form[1]:
        total += Fraction(*coefficient) * Fraction(*values[node])
    return total


class ShapeOfForms(unittest.TestCase):
    def assert_form(self, form):
        self.assertIs(type(form), tuple)
        self.assertIs(type(form[1]), tuple)
        nodes = [node for node, _ in form[1]]
        self.assertEqual(nodes, sorted(set(nodes)))
        for row in form[1]:
            self.assertIs(type(row), tuple)
            self.assertIs(type(row[1]), tuple)
            self.assertNotEqual(row[1][0], 0)
            self.assertEqual(row[1], Fraction(*row[1]).as_integer_ratio())


class ArithmeticTest(ShapeOfForms):
    def test_simple_forms(self):
        self.assertEqual(constant_form((3, 4)), ((3, 4), ()))
        self.assertEqual(constant_form(ZERO), (ZERO, ()))
        self.assertEqual(base_form(7), ((0, 1), ((7, (1, 1)),)))

    def test_plus(self):
        for f in FORMS:
            for g in FORMS:
                total = form_plus(f, g)
                self.assert_form(total)
                for values in POINTS:
                    self.assertEqual(plain_value(total, values), plain_value(f, values) + plain_value(g, values))

    def test_plus_shared_and_cancelling(self):
        f = ((1, 2), ((3, (1, 1)), (5, (1, 2))))
        g = ((1, 2), ((3, (-1, 1)), (5, (1, 2)), (7, (1, 1))))
        self.assertEqual(form_plus(f, g), ((1, 1), ((5, (1, 1)), (7, (1, 1)))))
        self.assertEqual(form_plus(g, f), form_plus(f, g))
        self.assertEqual(form_plus(f, form_times((-1, 1), f)), (ZERO, ()))
        self.assertEqual(form_plus(base_form(9), base_form(4))[1], ((4, ONE), (9, ONE)))

    def test_times(self):
        for a in WEIGHTS:
            for f in FORMS:
                product = form_times(a, f)
                self.assert_form(product)
                for values in POINTS:
                    self.assertEqual(plain_value(product, values), Fraction(*a) * plain_value(f, values))
        self.assertEqual(form_times(ZERO, FORMS[4]), (ZERO, ()))
        self.assertEqual(form_times((2, 1), FORMS[2]), (ZERO, ((3, (2, 1)),)))

    def test_value(self):
        for f in FORMS:
            for values in POINTS:
                self.assertEqual(form_value(f, values), plain_value(f, values).as_integer_ratio())
        self.assertEqual(form_value(((1, 2), ((3, (2, 1)),)), {3: (1, 4), 8: (9, 1)}), (1, 1))
        self.assertEqual(form_value(constant_form((5, 3)), {}), (5, 3))

    def test_dict_stays(self):
        values = {9: (1, 2), 3: (2, 3), 5: (0, 1)}
        before = list(values.items())
        form_value(FORMS[4], values)
        self.assertEqual(list(values.items()), before)


class TermFormTest(ShapeOfForms):
    def setUp(self):
        self.bank = new_bank()
        self.x = call(self.bank, "x")
        self.y = call(self.bank, "y")
        self.s = call(self.bank, "s")
        self.t = call(self.bank, "t")
        self.p = call(self.bank, "p")

    def make(self, op, value, *parts):
        return self.bank.make(op, value, parts)

    def test_whole_terms(self):
        self.assertEqual(term_form(self.bank, self.make("whole", 7)), ((7, 1), ()))
        self.assertEqual(term_form(self.bank, self.make("whole", -7)), ((-7, 1), ()))
        self.assertEqual(term_form(self.bank, self.make("whole", 0)), (ZERO, ()))
        self.assertEqual(term_form(self.bank, self.x), base_form(self.x))
        shifted = self.make("shift", -3, self.make("shift", 5, self.x))
        self.assertEqual(term_form(self.bank, shifted), ((2, 1), ((self.x, ONE),)))
        self.assertEqual(term_form(self.bank, self.make("shift", 4, self.make("whole", -1))), ((3, 1), ()))
        self.assertEqual(term_form(self.bank, self.make("shift", 0, self.x)), base_form(self.x))

    def test_own_nodes(self):
        choice = self.make("if", None, self.p, self.make("shift", 1, self.x), self.y)
        self.assertEqual(term_form(self.bank, choice), base_form(choice))
        self.assertEqual(term_form(self.bank, self.make("shift", 2, choice)), ((2, 1), ((choice, ONE),)))
        fractions = self.make("if", None, self.p, self.s, self.t)
        self.assertEqual(term_form(self.bank, fractions), base_form(fractions))
        inner = call(self.bank, "f", self.make("shift", 9, self.x))
        self.assertEqual(term_form(self.bank, inner), base_form(inner))

    def test_ratio_terms(self):
        half = self.make("ratio", (1, 2))
        self.assertEqual(term_form(self.bank, half), ((1, 2), ()))
        total = self.make("sum", None, self.s, half, self.t, self.s)
        self.assertEqual(term_form(self.bank, total), ((1, 2), ((self.s, (2, 1)), (self.t, ONE))))
        scaled = self.make("scale", (-2, 3), total)
        self.assertEqual(term_form(self.bank, scaled), ((-1, 3), ((self.s, (-4, 3)), (self.t, (-2, 3)))))
        self.assertEqual(term_form(self.bank, self.make("scale", ZERO, total)), (ZERO, ()))

    def test_cancelling(self):
        opposite = self.make("scale", (-1, 1), self.s)
        self.assertEqual(term_form(self.bank, self.make("sum", None, self.s, opposite)), (ZERO, ()))
        three = self.make("sum", None, self.t, opposite, self.s, self.make("ratio", (1, 3)))
        self.assertEqual(term_form(self.bank, three), ((1, 3), ((self.t, ONE),)))

    def test_rows_are_ascending(self):
        total = self.make("sum", None, self.t, self.s)
        self.assertEqual(term_form(self.bank, total)[1], ((self.s, ONE), (self.t, ONE)))
        self.assert_form(term_form(self.bank, total))

    def test_shared_parts_are_looked_at_once(self):
        node = self.s
        for _ in range(60):
            node = self.make("sum", None, node, node)
        self.assertEqual(term_form(self.bank, node), (ZERO, ((self.s, (2 ** 60, 1)),)))

    def test_deep_terms(self):
        node = self.x
        for _ in range(1500):
            node = self.make("shift", 1, node)
        self.assertEqual(term_form(self.bank, node), ((1500, 1), ((self.x, ONE),)))

    def test_wrong_sort(self):
        things = call(self.bank, "a")
        for node, op in (
            (1, "true"), (2, "false"), (self.p, "call"), (things, "call"),
            (self.make("not", None, 1), "not"), (self.make("most", None, self.x, self.y), "most"),
            (self.make("if", None, self.p, 1, 2), "if"), (self.make("if", None, self.p, things, things), "if"),
            (self.make("equal", None, self.x, self.y), "equal"),
        ):
            with self.assertRaises(BadSort) as caught:
                term_form(self.bank, node)
            self.assertEqual(caught.exception.op, op)

    def test_bank_stays(self):
        node = self.make("sum", None, self.s, self.make("scale", (1, 2), self.t))
        most = self.make("most", None, node, self.t)
        count = len(self.bank)
        term_form(self.bank, node)
        literal_form(self.bank, most)
        literal_form(self.bank, -most)
        self.assertEqual(len(self.bank), count)


class LiteralFormTest(ShapeOfForms):
    def setUp(self):
        self.bank = new_bank()
        self.x = call(self.bank, "x")
        self.y = call(self.bank, "y")
        self.s = call(self.bank, "s")
        self.t = call(self.bank, "t")

    def test_whole(self):
        most = self.bank.make("most", None, [self.bank.make("shift", 4, [self.x]), self.y])
        self.assertEqual(literal_form(self.bank, most), (((4, 1), ((self.x, ONE), (self.y, (-1, 1)))), False))
        self.assertEqual(literal_form(self.bank, -most), (((-3, 1), ((self.x, (-1, 1)), (self.y, ONE))), False))

    def test_whole_with_numbers(self):
        most = self.bank.make("most", None, [self.bank.make("whole", 7, []), self.x])
        self.assertEqual(literal_form(self.bank, most), (((7, 1), ((self.x, (-1, 1)),)), False))
        self.assertEqual(literal_form(self.bank, -most), (((-6, 1), ((self.x, ONE),)), False))

    def test_whole_without_rows(self):
        most = self.bank.make("most", None, [self.x, self.bank.make("shift", 2, [self.x])])
        self.assertEqual(literal_form(self.bank, most), (((-2, 1), ()), False))
        self.assertEqual(literal_form(self.bank, -most), (((3, 1), ()), False))
        same = self.bank.make("most", None, [self.x, self.x])
        self.assertEqual(literal_form(self.bank, same), ((ZERO, ()), False))
        self.assertEqual(literal_form(self.bank, -same), ((ONE, ()), False))

    def test_ratio(self):
        half = self.bank.make("ratio", (1, 2), [])
        most = self.bank.make("most", None, [self.bank.make("sum", None, [self.s, half]), self.t])
        self.assertEqual(literal_form(self.bank, most), (((1, 2), ((self.s, ONE), (self.t, (-1, 1)))), False))
        self.assertEqual(literal_form(self.bank, -most), (((-1, 2), ((self.s, (-1, 1)), (self.t, ONE))), True))
        same = self.bank.make("most", None, [self.s, self.s])
        self.assertEqual(literal_form(self.bank, same), ((ZERO, ()), False))
        self.assertEqual(literal_form(self.bank, -same), ((ZERO, ()), True))

    def test_strict_is_a_truth_value(self):
        for parts in ((self.x, self.y), (self.s, self.t)):
            most = self.bank.make("most", None, parts)
            for literal in (most, -most):
                self.assertIs(type(literal_form(self.bank, literal)), tuple)
                self.assertIs(type(literal_form(self.bank, literal)[1]), bool)

    def test_wrong_node(self):
        less = self.bank.make("less", None, [self.x, self.y])
        equal = self.bank.make("equal", None, [self.x, self.y])
        for node, op in ((1, "true"), (2, "false"), (less, "less"), (equal, "equal"), (self.x, "call")):
            for literal in (node, -node):
                with self.assertRaises(BadSort) as caught:
                    literal_form(self.bank, literal)
                self.assertEqual(caught.exception.op, op)
