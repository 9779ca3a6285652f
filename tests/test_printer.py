"""papersat/printer.py: points 19 and 20."""

import unittest

from papersat.bank import Bank, copy_term, subterms
from papersat.printer import print_shared, print_term, text_length
from papersat.reader import parse
from papersat.signature import Signature
from tests.support import call, new_bank, some_terms


def shared_nodes(bank, node):
    """The shared subterms, counted in a plain way."""
    numbers = subterms(bank, [node])
    parts = [part for number in numbers for part in bank.node(number)[2]]
    return [number for number in numbers if parts.count(number) >= 2 and bank.node(number)[2]]


class TermTextTest(unittest.TestCase):
    def test_texts(self):
        bank = new_bank()
        for text in (
            "true", "false", "p", "x", "5", "-5", "0", "1/2", "-7/3", "0/1", "(and)", "(or)", "(not p)", "(and p)", "(and p q r)",
            "(or q p)", "(imply p q)", "(if p x y)", "(= x y)", "(distinct b a b)", "(<= y x)", "(< y x)", "(+ x 5)", "(+ x -5)",
            "(+ s t)", "(+ t s t)", "(* 1/2 s)", "(* -3/1 s)", "(f x)", "(g s x)", "(h b a)", "(+ 2 5)", "(= 1/2 s)",
            "(imply (<= (f (+ x 1)) y) (not (= s (+ (* -1/2 t) 3/1))))", "(and (and) (or (and)))",
        ):
            node = parse(bank, text)
            self.assertEqual(print_term(bank, node), text)
            self.assertEqual(print_shared(bank, node), text)
            self.assertEqual(text_length(bank, node), len(text))

    def test_equal_in_the_order_of_the_node(self):
        bank = new_bank()
        call(bank, "y")
        self.assertEqual(print_term(bank, parse(bank, "(= x y)")), "(= y x)")
        self.assertEqual(print_term(bank, parse(bank, "(<= x y)")), "(<= x y)")

    def test_ratios_in_lowest_terms(self):
        bank = new_bank()
        self.assertEqual(print_term(bank, parse(bank, "(* 2/4 (+ s 6/3))")), "(* 1/2 (+ s 2/1))")

    def test_reading_back(self):
        for seed in range(6):
            bank = some_terms(seed, 120)
            for node in range(1, len(bank) + 1):
                length = text_length(bank, node)
                if length <= 20000:
                    text = print_term(bank, node)
                    self.assertEqual(len(text), length)
                    self.assertEqual(parse(bank, text), node)

    def test_nothing_is_added(self):
        bank = some_terms(1, 60)
        before = list(bank)
        for node in range(1, len(before) + 1):
            print_term(bank, node)
            print_shared(bank, node)
            text_length(bank, node)
        self.assertEqual(list(bank), before)

    def test_length_of_terms_that_are_too_long(self):
        bank = new_bank()
        node, length = call(bank, "p"), 1
        for _ in range(60):
            node, length = bank.make("and", None, [node, node]), 2 * length + 7
            self.assertEqual(text_length(bank, node), length)
        self.assertGreater(length, 10 ** 18)
        other = bank.make("imply", None, [node, bank.make("less", None, [call(bank, "x"), bank.make("whole", -12, [])])])
        self.assertEqual(text_length(bank, other), length + len("(imply  (< x -12))"))

    def test_deep_and_long(self):
        bank = new_bank()
        node = call(bank, "x")
        for _ in range(1500):
            node = bank.make("shift", 1, [node])
        text = print_term(bank, node)
        self.assertEqual(text, "(+ " * 1500 + "x" + " 1)" * 1500)
        self.assertEqual(text_length(bank, node), len(text))
        number = bank.make("whole", -10 ** 5000, [])
        self.assertEqual(print_term(bank, number), "-1" + "0" * 5000)
        self.assertEqual(text_length(bank, number), 5002)


class SharedTextTest(unittest.TestCase):
    def test_example_of_the_document(self):
        signature = Signature()
        signature.declare_function("x", [], "whole")
        bank = Bank(signature)
        bank.make("most", None, [bank.make("whole", 5, []), call(bank, "x")])
        node = parse(bank, "(let ((a (+ x 1))) (= (+ a 2) a))")
        self.assertEqual(print_term(bank, node), "(= (+ x 1) (+ (+ x 1) 2))")
        self.assertEqual(print_shared(bank, node), "(let ((v7 (+ x 1))) (= v7 (+ v7 2)))")

    def test_no_shared_subterms(self):
        bank = new_bank()
        for text in ("(= x x)", "(and true true)", "(and (and) (and))", "(distinct 1/2 1/2 s)", "(x)"):
            node = parse(bank, text)
            self.assertEqual(print_shared(bank, node), print_term(bank, node))

    def test_twice_among_the_parts_of_one_node(self):
        bank = new_bank()
        node = parse(bank, "(= (f x) (f x))")
        inner = bank.node(node)[2][0]
        self.assertEqual(print_shared(bank, node), f"(let ((v{inner} (f x))) (= v{inner} v{inner}))")

    def test_each_node_is_looked_at_once(self):
        bank = new_bank()
        # (f x) is a part of one node alone, which occurs twice.
        node = parse(bank, "(and (<= (f x) y) (<= (f x) y))")
        most = bank.node(node)[2][0]
        self.assertEqual(print_shared(bank, node), f"(let ((v{most} (<= (f x) y))) (and v{most} v{most}))")

    def test_several_in_ascending_order(self):
        bank = new_bank()
        node = parse(bank, "(let ((k (f x))) (let ((l (<= k (+ k 1)))) (and l (not l) (= k y))))")
        k, (l, _, _) = bank.seek("call", "f", [call(bank, "x")]), bank.node(node)[2]
        wanted = f"(let ((v{k} (f x))) (let ((v{l} (<= v{k} (+ v{k} 1)))) (and v{l} (not v{l}) (= v{k} y))))"
        self.assertEqual(print_shared(bank, node), wanted)

    def test_every_level_is_shared(self):
        bank = new_bank()
        node = parse(bank, "p")
        for _ in range(21):
            node = bank.make("or", None, [node, node])
        text = print_shared(bank, node)
        self.assertEqual(text.count("(let "), 20)
        self.assertLess(len(text), 1000)
        self.assertEqual(parse(bank, text), node)

    def test_reading_back(self):
        for seed in range(8):
            bank = some_terms(seed, 90)
            for node in range(1, len(bank) + 1):
                shared = shared_nodes(bank, node)
                text = print_shared(bank, node)
                self.assertEqual(text.count("(let (("), len(shared))
                names = [word.split(" ")[0] for word in text.split("(let ((")[1:]]
                self.assertEqual(names, [f"v{number}" for number in shared])
                self.assertEqual(parse(bank, text), node)

    def test_names_that_were_declared(self):
        declared = [
            ("v", 1), ("v_7", 1), ("w7", 1), ("v7a", 1), ("V7", 1), ("avv7", 1), ("vv", 1), ("vvv7", 1), ("v7v", 1), ("v7v8", 1),
            ("v7", 2), ("vv7", 2), ("v0", 2), ("v00012", 2), ("vvv123456", 2), ("vv9", 4), ("vvvvv1", 4), ("vvvv1", 6),
        ]
        for as_sort in (False, True):
            bank = new_bank()
            node = parse(bank, "(= (f x) (+ (f x) 2))")
            inner = bank.seek("call", "f", [call(bank, "x")])
            for name, _ in declared:
                if as_sort:
                    bank.signature.declare_sort(name)
                else:
                    bank.signature.declare_function(name, [], "whole")
                taken = {
                    len(other) - len(other.lstrip("v"))
                    for other in bank.signature.sorts() + bank.signature.functions()
                    if other.lstrip("v").isdigit()
                }
                count = min(k for k in range(1, 20) if k not in taken)
                letters = "v" * count
                wanted = f"(let (({letters}{inner} (f x))) (= {letters}{inner} (+ {letters}{inner} 2)))"
                self.assertEqual(print_shared(bank, node), wanted)
                self.assertEqual(parse(bank, wanted), node)

    def test_letters_by_hand(self):
        for names, letters in (
            ([], "v"), (["v"], "v"), (["v7"], "vv"), (["vv7"], "v"), (["v7", "vv7"], "vvv"), (["v1", "vvv1"], "vv"),
            (["v_1"], "v"), (["v1x"], "v"), (["vx1"], "v"), (["v99999"], "vv"), (["V1"], "v"), (["w1"], "v"),
            (["vv2", "v3", "vvvv5", "vvv4"], "vvvvv"),
        ):
            bank = new_bank()
            for name in names:
                bank.signature.declare_sort(name)
            node = parse(bank, "(= (f x) (+ (f x) 2))")
            self.assertTrue(print_shared(bank, node).startswith(f"(let (({letters}"), names)
            self.assertNotIn("v" + letters, print_shared(bank, node))

    def test_copy_by_text(self):
        for seed in range(3):
            bank = some_terms(seed, 60)
            for node in range(1, len(bank) + 1):
                other = new_bank()
                copy = copy_term(bank, node, other)
                self.assertEqual(parse(other, print_shared(other, copy)), copy)
