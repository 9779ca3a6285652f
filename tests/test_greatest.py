"""papersat/greatest.py: points 83 and 84."""

import itertools
import random
import unittest

from papersat.desk import Desk
from papersat.errors import BadSort, BadText, UnknownName
from papersat.forms import literal_form, term_form
from papersat.greatest import greatest
from papersat.log import Log
from papersat.meaning import meaning
from papersat.meeting import question
from papersat.reader import parse
from tests.answers import hold, shortest_way
from tests.desks import new_desk
from tests.layers import heights_exist


class Case(unittest.TestCase):
    def setUp(self):
        self.desk = new_desk()

    def least_k(self, s, t):
        """B of point 84."""
        bank = self.desk.bank
        nodes, _ = question(bank, Log(), self.desk.standing() + [bank.make("most", None, (s, t))])
        total = 1 + abs(term_form(bank, s)[0][0]) + abs(term_form(bank, t)[0][0])
        for node in nodes:
            if bank.node(node)[0] == "most" and bank.sort_of(bank.node(node)[2][0]) == "whole":
                total += 1 + abs(literal_form(bank, node)[0][0][0])
        return total

    def at_least(self, s, t, k):
        bank = self.desk.bank
        return bank.seek("most", None, (bank.seek("shift", k, (t,)), s))

    def look(self, first, second):
        """The first two parts of the result; all of it is held against points 83 and 84."""
        desk, bank = self.desk, self.desk.bank
        before = (desk.standing(), desk.level_count, desk.last(), desk.journal())
        result = greatest(desk, first, second)
        self.assertEqual((desk.standing(), desk.level_count, desk.last(), desk.journal()), before)
        self.assertEqual((type(result), len(result)), (tuple, 3))
        kind, value, answers = result
        standing = desk.standing()
        s, t = parse(bank, first), parse(bank, second)
        if kind == "no":
            self.assertFalse(hold(self, bank, standing, answers))
        elif kind == "unbounded":
            sentence = self.at_least(s, t, self.least_k(s, t) + 1)
            self.assertTrue(hold(self, bank, standing + [sentence], answers))
        else:
            self.assertEqual((kind, type(value), type(answers)), ("greatest", int, tuple))
            reached, refused = answers
            self.assertEqual(reached.sentences[:len(dict.fromkeys(standing))], list(dict.fromkeys(standing)))
            self.assertTrue(hold(self, bank, reached.sentences, reached))
            self.assertEqual(meaning(bank, reached.model, s) - meaning(bank, reached.model, t), value)
            self.assertFalse(hold(self, bank, standing + [self.at_least(s, t, value + 1)], refused))
            return (kind, value)
        self.assertIsNone(value)
        return (kind, value)

    def claim(self, *texts):
        for text in texts:
            self.desk.claim(text)


class KindsTest(Case):
    def test_the_example_of_the_document(self):
        desk = Desk()
        for name, arguments in (("x", []), ("y", []), ("f", ["whole"])):
            desk.declare_function(name, arguments, "whole")
        desk.claim("(and (<= x (+ y 2)) (<= y x) (not (= (f x) (f y))))")
        self.assertTrue(desk.ask().yes)
        self.assertEqual(greatest(desk, "y", "x")[:2], ("greatest", -1))
        self.assertEqual(greatest(desk, "x", "y")[:2], ("greatest", 2))
        with self.assertRaises(BadSort) as caught:
            greatest(desk, "f", "x")
        self.assertEqual(caught.exception.op, "call")

    def test_no(self):
        self.claim("(< x y)", "(< y x)")
        for first, second in (("x", "y"), ("x", "x"), ("5", "3"), ("(f z)", "z")):
            self.assertEqual(self.look(first, second), ("no", None))

    def test_unbounded(self):
        for first, second in (("x", "y"), ("x", "5"), ("0", "x"), ("(f x)", "x"), ("(+ x 100)", "(+ y -100)"), ("(if p x y)", "y")):
            self.assertEqual(self.look(first, second), ("unbounded", None))
        self.claim("(<= s 7/2)", "(< (+ s t 1/3) (* 2/1 s))")
        self.assertEqual(self.look("x", "y"), ("unbounded", None))
        self.claim("(<= x y)", "(<= 0 z)")
        self.assertEqual(self.look("y", "x"), ("unbounded", None))
        self.assertEqual(self.look("z", "0"), ("unbounded", None))
        self.assertEqual(self.look("z", "x"), ("unbounded", None))

    def test_a_term_with_itself(self):
        for term in ("x", "5", "(f x)", "(+ x 3)", "(if p x y)"):
            self.assertEqual(self.look(term, term), ("greatest", 0))
        self.assertEqual(self.look("(+ x 3)", "x"), ("greatest", 3))
        self.assertEqual(self.look("x", "(+ x 3)"), ("greatest", -3))
        self.assertEqual(self.look("(+ (+ x -9) 2)", "(+ x 1)"), ("greatest", -8))

    def test_numbers(self):
        for s, t in ((5, 3), (3, 5), (0, 0), (-7, 2), (10 ** 17, -10 ** 17)):
            self.assertEqual(self.look(str(s), str(t)), ("greatest", s - t))
        self.claim("(<= x 7)", "(<= -2 x)")
        self.assertEqual(self.look("x", "0"), ("greatest", 7))
        self.assertEqual(self.look("0", "x"), ("greatest", 2))
        self.assertEqual(self.look("(+ x 5)", "1"), ("greatest", 11))
        self.assertEqual(self.look("100", "(+ x -1)"), ("greatest", 103))

    def test_bounds(self):
        self.claim("(<= x (+ y 2))", "(< y (+ z -3))", "(<= z (+ x 40))")
        self.assertEqual(self.look("x", "y"), ("greatest", 2))
        self.assertEqual(self.look("x", "z"), ("greatest", -2))
        self.assertEqual(self.look("z", "y"), ("greatest", 42))
        self.assertEqual(self.look("y", "x"), ("greatest", 36))

    def test_choices(self):
        self.claim("(or (and p (<= x (+ y 10))) (and (not p) (<= x (+ y -5))))")
        self.assertEqual(self.look("x", "y"), ("greatest", 10))
        self.desk.push()
        self.claim("(not p)")
        self.assertEqual(self.look("x", "y"), ("greatest", -5))
        self.desk.drop()
        self.claim("(imply p (= x y))")
        self.assertEqual(self.look("x", "y"), ("greatest", 0))

    def test_calls_and_if_terms(self):
        self.claim("(<= (f x) (+ x 3))", "(<= (f y) (+ y -2))", "(<= x y)", "(<= y x)")
        self.assertEqual(self.look("(f x)", "x"), ("greatest", -2))
        self.assertEqual(self.look("(f (+ x 1))", "x"), ("unbounded", None))
        self.desk = new_desk()
        self.claim("(<= x 3)", "(<= y 8)")
        self.assertEqual(self.look("(if p x y)", "0"), ("greatest", 8))
        self.claim("p")
        self.assertEqual(self.look("(if p x y)", "0"), ("greatest", 3))
        self.assertEqual(self.look("(if p (+ x 1) y)", "(if q 2 1)"), ("greatest", 3))

    def test_equal_calls_hold_numbers_apart(self):
        self.claim("(distinct (f x) (f y) (f z))", "(<= x 5)", "(<= y 5)", "(<= z 5)", "(<= 3 x)", "(<= 3 y)", "(<= 3 z)", "(< x y)", "(< y z)")
        self.assertEqual(self.look("x", "z"), ("greatest", -2))
        self.assertEqual(self.look("z", "y"), ("greatest", 1))

    def test_other_kinds_of_sentences(self):
        self.claim("(imply (= a b) (<= x 4))", "(imply (not (= a b)) (<= x 9))", "(= (h a a) (h b b))", "(imply (< s t) (= a b))", "(<= (+ s 1/2) t)")
        self.assertEqual(self.look("x", "0"), ("greatest", 4))

    def test_an_equality(self):
        self.claim("(= x (+ y 123456789012345678))")
        self.assertEqual(self.look("x", "y"), ("greatest", 123456789012345678))
        self.assertEqual(self.look("y", "x"), ("greatest", -123456789012345678))

    def test_long_numbers(self):
        far = 10 ** 18 - 1
        self.claim(f"(<= x (+ y {far}))", f"(<= y (+ z {far}))", f"(<= z -{far})")
        self.assertEqual(self.look("x", "z"), ("greatest", 2 * far))
        self.assertEqual(self.look("x", "0"), ("greatest", far))


class ErrorsTest(Case):
    def refused(self, error, attribute, worth, first, second):
        desk = self.desk
        before = (desk.standing(), desk.level_count, desk.last(), desk.journal(), desk.kept.lists())
        with self.assertRaises(error) as caught:
            greatest(desk, first, second)
        self.assertEqual(getattr(caught.exception, attribute), worth)
        self.assertEqual((desk.standing(), desk.level_count, desk.last(), desk.journal(), desk.kept.lists()), before)

    def test_terms_of_other_sorts(self):
        for asked in ([], ["p"], ["false"]):
            self.desk.ask(asked)
            for text, op in (("p", "call"), ("s", "call"), ("a", "call"), ("1/2", "ratio"), ("(+ s t)", "sum"), ("(* 1/2 s)", "scale"), ("(< x y)", "less"),
                             ("(if p s t)", "if"), ("true", "true"), ("(and)", "and")):
                self.refused(BadSort, "op", op, text, "x")
                self.refused(BadSort, "op", op, "x", text)
                self.refused(BadSort, "op", op, text, "(not p)")
                self.refused(BadSort, "op", "not", "(not p)", text)

    def test_both_texts_are_read_first(self):
        self.refused(BadText, "place", 0, "p", "")
        self.refused(UnknownName, "name", "nobody", "1/2", "nobody")
        self.refused(BadText, "place", 0, "", "nobody")
        self.refused(UnknownName, "name", "nobody", "nobody", "(")
        self.refused(BadSort, "op", "not", "(not x)", "(")
        self.refused(BadSort, "op", "call", "f", "(")

    def test_errors_come_before_solving(self):
        self.desk.claim("false")
        self.refused(BadSort, "op", "call", "p", "x")
        self.refused(BadText, "place", 1, "x", "x)")


class PlainTest(Case):
    def test_differences_against_shortest_ways(self):
        kinds = {"no": 0, "unbounded": 0, "greatest": 0}
        for seed in range(60):
            chance = random.Random(seed)
            self.desk = new_desk()
            limits = []
            for _ in range(chance.randrange(2, 9)):
                i, j = chance.sample(("x", "y", "z", "0"), 2)
                k = chance.randrange(-3, 7)
                limits.append((i, j, k))
                self.claim(f"(<= {i} (+ {j} {k}))")
            first, second = chance.sample(("x", "y", "z", "0"), 2)
            if not heights_exist(limits):
                wanted = ("no", None)
            else:
                value = shortest_way(limits, first, second)
                wanted = ("unbounded" if value is None else "greatest", value)
            self.assertEqual(self.look(first, second), wanted, limits)
            kinds[wanted[0]] += 1
        self.assertGreater(min(kinds.values()), 6, kinds)

    def test_choices_against_all_their_rows(self):
        kinds = {"no": 0, "unbounded": 0, "greatest": 0}
        for seed in range(60):
            chance = random.Random(seed)
            self.desk = new_desk()
            choices = []
            if chance.random() < 0.6:
                for name in "xyz":
                    choices += [[(name, "0", 6)], [("0", name, 6)]]
                    self.claim(f"(and (<= {name} 6) (<= 0 (+ {name} 6)))")
            for _ in range(chance.randrange(2, 6)):
                options = [(*chance.sample(("x", "y", "z", "0"), 2), chance.randrange(-7, 3)) for _ in range(2)]
                choices.append(options)
                self.claim(f"(or {' '.join(f'(<= {i} (+ {j} {k}))' for i, j, k in options)})")
            first, second = chance.sample(("x", "y", "z"), 2)
            values = []
            for limits in itertools.product(*choices):
                if heights_exist(limits):
                    values.append(shortest_way(limits, first, second))
            if not values:
                wanted = ("no", None)
            elif None in values:
                wanted = ("unbounded", None)
            else:
                wanted = ("greatest", max(values))
            self.assertEqual(self.look(first, second), wanted, choices)
            kinds[wanted[0]] += 1
        self.assertGreater(min(kinds.values()), 2, kinds)

    def test_kept_clauses_are_used(self):
        self.claim("(distinct x y z)", "(<= 0 x)", "(< x 3)", "(<= 0 y)", "(< y 3)", "(<= 0 z)", "(< z 3)")
        self.assertEqual(self.look("x", "z"), ("greatest", 2))
        self.assertGreater(len(self.desk.kept.lists()), 0)


if __name__ == "__main__":
    unittest.main()
