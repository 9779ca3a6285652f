"""papersat/meaning.py: points 25 and 26."""

import unittest
from fractions import Fraction

from papersat.bank import subterms
from papersat.meaning import clause_holds, literal_holds, meaning, meanings
from papersat.models import Model
from papersat.reader import parse
from tests.support import call, new_bank, some_model, some_terms

BOTH = (False, True)


def plain_meaning(bank, model, node):
    """The meaning by a plain walk, with fractions instead of ratios."""
    op, value, parts = bank.node(node)
    found = [plain_meaning(bank, model, part) for part in parts]
    if op == "call":
        passed = [v.as_integer_ratio() if isinstance(v, Fraction) else v for v in found]
        result = model.look(value, passed)
        return Fraction(*result) if bank.sort_of(node) == "ratio" else result
    if op == "if":
        return found[1] if found[0] else found[2]
    return {
        "true": lambda: True, "false": lambda: False, "not": lambda: not found[0], "and": lambda: all(found),
        "or": lambda: any(found), "imply": lambda: found[1] if found[0] else True, "equal": lambda: found[0] == found[1],
        "distinct": lambda: len(set(found)) == len(found), "most": lambda: found[0] <= found[1],
        "less": lambda: found[0] < found[1], "whole": lambda: value, "shift": lambda: found[0] + value,
        "ratio": lambda: Fraction(*value), "sum": lambda: sum(found), "scale": lambda: Fraction(*value) * found[0],
    }[op]()


class MeaningTest(unittest.TestCase):
    def setUp(self):
        self.bank = new_bank()
        self.model = Model(self.bank.signature)

    def value(self, text):
        return meaning(self.bank, self.model, parse(self.bank, text))

    def test_truth_values(self):
        self.assertIs(self.value("true"), True)
        self.assertIs(self.value("false"), False)
        for p in BOTH:
            for q in BOTH:
                for r in BOTH:
                    self.model.otherwise("p", p)
                    self.model.otherwise("q", q)
                    self.model.otherwise("r", r)
                    for text, wanted in (
                        ("(not p)", not p), ("(and)", True), ("(and p)", p), ("(and p q)", p and q), ("(and p q r)", p and q and r),
                        ("(or)", False), ("(or p)", p), ("(or p q)", p or q), ("(or p q r)", p or q or r), ("(imply p q)", not p or q),
                        ("(if p q r)", q if p else r), ("(= p q)", p == q), ("(= p p)", True), ("(distinct p q)", p != q),
                        ("(distinct p q r)", False), ("(distinct p p)", False),
                    ):
                        self.assertIs(self.value(text), wanted, (text, p, q, r))

    def test_whole_numbers(self):
        for x in (-2, 0, 3, 10 ** 30):
            for y in (-2, 0, 4, 10 ** 30):
                self.model.give("x", [], x)
                self.model.otherwise("y", y)
                for text, wanted in (
                    ("x", x), ("(+ x 5)", x + 5), ("(+ x -5)", x - 5), ("7", 7), ("(<= x y)", x <= y), ("(< x y)", x < y),
                    ("(= x y)", x == y), ("(distinct x y)", x != y), ("(if (< x y) x y)", min(x, y)), ("(<= (+ x 1) y)", x < y),
                    ("(distinct x y 4)", len({x, y, 4}) == 3), ("(distinct x y x)", False),
                ):
                    found = self.value(text)
                    self.assertEqual(found, wanted, (text, x, y))
                    self.assertIs(type(found), type(wanted))

    def test_ratios(self):
        for s in ((0, 1), (1, 2), (-7, 3)):
            for t in ((0, 1), (2, 3), (-7, 3)):
                self.model.otherwise("s", s)
                self.model.give("t", (), t)
                a, b = Fraction(*s), Fraction(*t)
                for text, wanted in (
                    ("s", a), ("(+ s t)", a + b), ("(+ s t s 1/3)", 2 * a + b + Fraction(1, 3)), ("(* -3/2 s)", Fraction(-3, 2) * a),
                    ("(* 0/1 s)", Fraction(0)), ("5/10", Fraction(1, 2)),
                ):
                    self.assertEqual(self.value(text), wanted.as_integer_ratio(), text)
                for text, wanted in (
                    ("(<= s t)", a <= b), ("(< s t)", a < b), ("(= s t)", a == b), ("(distinct s t)", a != b),
                    ("(= (+ s s) (* 2/1 s))", True), ("(distinct s t 1/2)", len({a, b, Fraction(1, 2)}) == 3),
                ):
                    self.assertIs(self.value(text), wanted, text)

    def test_calls(self):
        self.model.give("f", [5], 6)
        self.model.otherwise("f", 9)
        self.model.give("x", [], 4)
        self.model.give("g", [(1, 2), 6], (7, 2))
        self.model.give("is_old", [3], True)
        self.model.give("a", [], 3)
        for text, wanted in (
            ("(f (+ x 1))", 6), ("(f x)", 9), ("(f (f (+ x 1)))", 9), ("(g 2/4 (f 5))", (7, 2)), ("(g 2/3 6)", (0, 1)),
            ("(is_old a)", True), ("(is_old b)", False), ("(h a b)", 0), ("(= a b)", False), ("(= b c)", True), ("(distinct a b c)", False),
        ):
            self.assertEqual(self.value(text), wanted, text)

    def test_like_a_plain_walk(self):
        for seed in range(8):
            bank = some_terms(seed, 80)
            model = some_model(seed + 100, bank.signature)
            small = [node for node in range(1, len(bank) + 1) if len(subterms(bank, [node])) < 12]
            for node in small:
                wanted = plain_meaning(bank, model, node)
                if bank.sort_of(node) == "ratio":
                    wanted = wanted.as_integer_ratio()
                found = meaning(bank, model, node)
                self.assertEqual(found, wanted)
                self.assertIs(type(found), type(wanted))

    def test_dict_of_all_subterms(self):
        for seed in range(4):
            bank = some_terms(seed, 60)
            model = some_model(seed, bank.signature)
            nodes = [len(bank), 20, 41, 20]
            for passed in (nodes, tuple(nodes), [], [2]):
                found = meanings(bank, model, passed)
                self.assertIs(type(found), dict)
                self.assertEqual(list(found), subterms(bank, passed))
                for node, value in found.items():
                    self.assertEqual(value, meaning(bank, model, node))
            self.assertEqual(nodes, [len(bank), 20, 41, 20])
            self.assertEqual(len(bank), nodes[0])

    def test_each_subterm_once(self):
        node = parse(self.bank, "s")
        self.model.otherwise("s", (1, 3))
        for _ in range(60):
            node = self.bank.make("sum", None, [node, node])
        self.assertEqual(meaning(self.bank, self.model, node), (2 ** 60, 3))
        deep = 1
        for _ in range(1501):
            deep = self.bank.make("not", None, [deep])
        self.assertIs(meaning(self.bank, self.model, deep), False)


class HoldingTest(unittest.TestCase):
    def setUp(self):
        self.bank = new_bank()
        self.model = Model(self.bank.signature)
        self.p, self.q = call(self.bank, "p"), call(self.bank, "q")
        self.model.otherwise("p", True)

    def test_literals(self):
        for literal, wanted in ((self.p, True), (-self.p, False), (self.q, False), (-self.q, True), (1, True), (-1, False), (2, False), (-2, True)):
            self.assertIs(literal_holds(self.bank, self.model, literal), wanted)

    def test_clauses(self):
        p, q = self.p, self.q
        for clause, wanted in (
            ((), False), ((p,), True), ((-p,), False), ((q,), False), ((-q,), True), ((p, q), True), ((-p, q), False),
            ((-p, -q), True), ((p, -q), True), ((1, -p), True), ((2, -p, q), False), ((-2, -p), True), ((-1, -p, q), False),
        ):
            self.assertIs(clause_holds(self.bank, self.model, clause), wanted, clause)

    def test_bank_and_model_stay(self):
        count = len(self.bank)
        clause_holds(self.bank, self.model, (-self.p, self.q))
        self.assertEqual(len(self.bank), count)
        self.assertEqual(self.model.rows_of("p"), [])
