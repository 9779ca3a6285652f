"""papersat/reader.py: points 17 and 18."""

import unittest

from papersat.errors import BadNode, BadSort, BadText, NameTaken, PaperError, UnknownName
from papersat.reader import parse
from papersat.words import RESERVED
from tests.support import call, new_bank

HEADS = "not and or imply if = distinct <= < + *".split()


class ReaderTest(unittest.TestCase):
    def setUp(self):
        self.bank = new_bank()

    def read(self, text):
        return self.bank.node(parse(self.bank, text))

    def assert_refused(self, text, error, value):
        with self.assertRaises(PaperError) as caught:
            parse(self.bank, text)
        self.assertIs(type(caught.exception), error, text)
        attribute = {BadText: "place", BadSort: "op", BadNode: "number"}.get(error, "name")
        self.assertEqual(getattr(caught.exception, attribute), value, text)


class TermsTest(ReaderTest):
    def test_words(self):
        self.assertEqual(parse(self.bank, "true"), 1)
        self.assertEqual(parse(self.bank, "false"), 2)
        self.assertEqual(self.read("0"), ("whole", 0, ()))
        self.assertEqual(self.read("17"), ("whole", 17, ()))
        self.assertEqual(self.read("-17"), ("whole", -17, ()))
        self.assertEqual(self.read("0/1"), ("ratio", (0, 1), ()))
        self.assertEqual(self.read("2/4"), ("ratio", (1, 2), ()))
        self.assertEqual(self.read("-6/4"), ("ratio", (-3, 2), ()))
        self.assertEqual(self.read("x"), ("call", "x", ()))
        self.assertEqual(self.read("\n  x \n"), ("call", "x", ()))

    def test_each_head(self):
        bank = self.bank
        p, q, x, y = (call(bank, name) for name in "pqxy")
        s, t, a, b = (call(bank, name) for name in "stab")
        for text, wanted in (
            ("(not p)", ("not", None, (p,))), ("(and)", ("and", None, ())), ("(and p)", ("and", None, (p,))),
            ("(and p q p)", ("and", None, (p, q, p))), ("(or)", ("or", None, ())), ("(or q p)", ("or", None, (q, p))),
            ("(imply q p)", ("imply", None, (q, p))), ("(if p x y)", ("if", None, (p, x, y))),
            ("(if p q p)", ("if", None, (p, q, p))), ("(= x y)", ("equal", None, (x, y))),
            ("(= y x)", ("equal", None, (x, y))), ("(= p p)", ("equal", None, (p, p))),
            ("(distinct b a b)", ("distinct", None, (b, a, b))), ("(<= y x)", ("most", None, (y, x))),
            ("(< t s)", ("less", None, (t, s))), ("(< y x)", ("less", None, (y, x))),
            ("(<= t s)", ("most", None, (t, s))), ("(+ x 5)", ("shift", 5, (x,))), ("(+ x -5)", ("shift", -5, (x,))),
            ("(+ 3 5)", ("shift", 5, (bank.make("whole", 3, []),))), ("(+ t s t)", ("sum", None, (t, s, t))),
            ("(* 2/4 s)", ("scale", (1, 2), (s,))), ("(* 0/1 s)", ("scale", (0, 1), (s,))),
            ("(f x)", ("call", "f", (x,))), ("(g s x)", ("call", "g", (s, x))), ("(h b a)", ("call", "h", (b, a))),
            ("(x)", ("call", "x", ())), ("( x )", ("call", "x", ())), ("(is_old a)", ("call", "is_old", (a,))),
        ):
            self.assertEqual(self.read(text), wanted, text)

    def test_nested(self):
        bank = self.bank
        node = parse(bank, "(imply (<= (f (+ x 1)) y)(not (= s (+ (* -1/2 t) 3/1))))")
        x, y, s, t = (call(bank, name) for name in "xyst")
        inner = bank.make("call", "f", [bank.make("shift", 1, [x])])
        scaled = bank.make("scale", (-1, 2), [t])
        total = bank.make("sum", None, [scaled, bank.make("ratio", (3, 1), [])])
        equal = bank.make("equal", None, [s, total])
        wanted = bank.make("imply", None, [bank.make("most", None, [inner, y]), bank.make("not", None, [equal])])
        self.assertEqual(node, wanted)

    def test_spaces_do_not_matter(self):
        wanted = parse(self.bank, "(and (not p) (<= x 5))")
        for text in ("(and(not p)(<= x 5))", " ( and ( not p ) ( <= x 5 ) ) ", "(and\n(not\np)\n\n(<= x\n5))\n"):
            self.assertEqual(parse(self.bank, text), wanted)

    def test_same_number_again(self):
        text = "(let ((k (+ x 1))) (and (<= k y) (= (f k) 2)))"
        first = parse(self.bank, text)
        count = len(self.bank)
        parse(self.bank, "(not (= a b))")
        self.assertEqual(parse(self.bank, text), first)
        self.assertGreater(len(self.bank), count)

    def test_nodes_that_reading_adds(self):
        parse(self.bank, "(+ x 5)")
        self.assertEqual(list(self.bank)[2:], [("call", "x", ()), ("whole", 5, ()), ("shift", 5, (3,))])
        self.assert_refused("(and p 1/2 nothing)", UnknownName, "nothing")
        self.assertEqual(list(self.bank)[5:], [("call", "p", ()), ("ratio", (1, 2), ())])

    def test_functions_declared_later(self):
        self.assert_refused("late", UnknownName, "late")
        self.assert_refused("(late x)", UnknownName, "late")
        self.bank.signature.declare_function("late", ["whole"], "whole")
        self.assertEqual(self.read("(late x)")[:2], ("call", "late"))

    def test_limits_and_beyond(self):
        for depth in (60, 100, 150):
            text = "(not " * depth + "p" + ")" * depth
            node = parse(self.bank, text)
            for _ in range(depth):
                node = self.bank.node(node)[2][0]
            self.assertEqual(self.bank.node(node), ("call", "p", ()))
            lets = "(let ((k p)) " * depth + "k" + ")" * depth
            self.assertEqual(parse(self.bank, lets), node)
            inner = "(let ((k " * depth + "p" + ")) k)" * depth
            self.assertEqual(parse(self.bank, inner), node)
        number = "9" * 18
        self.assertEqual(self.read(number), ("whole", 10 ** 18 - 1, ()))
        self.assertEqual(self.read(f"-{number}/{number[:-1]}8"), ("ratio", (1 - 10 ** 18, 10 ** 18 - 2), ()))
        self.assertEqual(self.read("1" + "0" * 5000), ("whole", 10 ** 5000, ()))
        wide = "(and" + " p" * 9990 + ")"
        self.assertEqual(len(self.read(wide)[2]), 9990)


class WordErrorsTest(ReaderTest):
    def test_each_word_in_the_place_of_a_term(self):
        for word in ("no", "thing", "place", "xx", "X", "truths", "v7", "k" * 30):
            self.assert_refused(word, UnknownName, word)
            self.assert_refused(f"(not {word})", UnknownName, word)
        reserved = [word for word in RESERVED if word not in ("true", "false")]
        others = ("=", "<=", "<", "+", "*", "-", "-0", "00", "01", "+1", "1_0", "1/0", "1/02", "1.5", "_a", "a-b", ")", "/", "1a", ">=")
        for word in [*reserved, *others]:
            self.assert_refused(word, BadText, 0)
            self.assert_refused(f" {word}", BadText, 1)
            if word != ")":
                self.assert_refused(f"(not {word})", BadText, 5)
                self.assert_refused(f"(not true {word}", BadText, 10)

    def test_functions_with_arguments(self):
        for word in ("f", "g", "h", "is_old", "at"):
            self.assert_refused(word, BadSort, "call")
            self.assert_refused(f"({word})", BadSort, "call")
            self.assert_refused(f"(and {word} no)", BadSort, "call")

    def test_each_word_in_the_place_of_a_head(self):
        for word in ("no", "thing", "place", "notx", "lets", "iff"):
            self.assert_refused(f"({word} x)", UnknownName, word)
            self.assert_refused(f"(and ({word}", UnknownName, word)
        others = ("truth", "whole", "ratio", "true", "false", "0", "-5", "1/2", "(", ")", ">=", "==", "/", "-", "_a", "1a", "<=>")
        for word in others:
            self.assert_refused(f"({word} x)", BadText, 1)
            self.assert_refused(f" ( {word}", BadText, 3)

    def test_wrong_parts(self):
        for text, op in (
            ("(not)", "not"), ("(not p q)", "not"), ("(not x)", "not"), ("(and p x)", "and"), ("(or s)", "or"),
            ("(imply p)", "imply"), ("(if p x s)", "if"), ("(if x x x)", "if"), ("(= x s)", "equal"), ("(= x)", "equal"),
            ("(= x y z)", "equal"), ("(distinct x)", "distinct"), ("(distinct)", "distinct"), ("(<= p q)", "most"),
            ("(<= x s)", "most"), ("(< a b)", "less"), ("(< x)", "less"), ("(f s)", "call"), ("(f)", "call"),
            ("(x x)", "call"), ("(g x s)", "call"), ("(<= x 1/2)", "most"), ("(= s 1)", "equal"),
        ):
            self.assert_refused(text, BadSort, op)

    def test_plus(self):
        for text, op in (
            ("(+ x)", "shift"), ("(+ x y)", "shift"), ("(+ x 1 2)", "shift"), ("(+ 1)", "shift"), ("(+ x 1/2)", "shift"),
            ("(+ x (+ 1 2))", "shift"), ("(+ 1 x)", "shift"), ("(+ x s)", "shift"), ("(+ x p)", "shift"), ("(+ x 1 1/2)", "shift"),
            ("(+)", "sum"), ("(+ s)", "sum"), ("(+ s x)", "sum"), ("(+ s 1)", "sum"), ("(+ p 1)", "sum"), ("(+ a a)", "sum"),
            ("(+ 1/2)", "sum"), ("(+ s t 1)", "sum"), ("(+ p q)", "sum"),
        ):
            self.assert_refused(text, BadSort, op)
        self.assertEqual(self.read("(let ((five 5)) (+ x five))")[:2], ("shift", 5))
        self.assertEqual(self.read("(+ (if p 1 2) 3)")[:2], ("shift", 3))
        self.assertEqual(self.read("(+ 1/2 s)")[0], "sum")

    def test_times(self):
        for text in (
            "(*)", "(* 1/2)", "(* s)", "(* 1/2 s t)", "(* s 1/2)", "(* s t)", "(* 2 s)", "(* x s)", "(* 1/2 x)", "(* 1/2 2)",
            "(* 2 x)", "(* 1/2 p)", "(* 1/2 a)", "(* (* 1/2 1/2) s)", "(* (+ 1/2 1/2) s)",
        ):
            self.assert_refused(text, BadSort, "scale")
        self.assertEqual(self.read("(let ((half 1/2)) (* half s))")[:2], ("scale", (1, 2)))
        self.assertEqual(self.read("(* 1/2 1/3)")[:2], ("scale", (1, 2)))

    def test_text_that_ends_too_early(self):
        text = "(imply (<= (f (+ x 1)) y) (let ((k (= s 1/2)) (l p)) (and k l)))"
        parse(self.bank, text)
        starts = [place for place in range(len(text)) if text[place] in " ()"]
        for place in [0, *starts]:
            self.assert_refused(text[:place], BadText, place)
            self.assert_refused(text[:place] + " \n", BadText, place + 2)
        for empty in ("", " ", "\n\n", "    "):
            self.assert_refused(empty, BadText, len(empty))

    def test_words_behind_the_term(self):
        for text, place in (
            ("p q", 2), ("p )", 2), ("p)", 1), ("(and) (", 6), ("(not p))", 7), ("x 5", 2), ("true\n(no", 5), ("1 no", 2),
            ("(let () p) let", 11),
        ):
            self.assert_refused(text, BadText, place)

    def test_tabs_come_first(self):
        for text, place in (
            ("(no\tx)", 3), ("\t", 0), ("p\t", 1), (")) no 1/0 \t \t", 10), ("(and p q)\t", 9), ("(let ((k\tp)) k)", 8),
        ):
            count = len(self.bank)
            self.assert_refused(text, BadText, place)
            self.assertEqual(len(self.bank), count)

    def test_first_error_from_left_to_right(self):
        for text, error, value in (
            ("(and no nay)", UnknownName, "no"), ("(and = no)", BadText, 5), ("(no =)", UnknownName, "no"),
            ("(true no)", BadText, 1), ("(not x) no", BadSort, "not"), ("(not x no)", UnknownName, "no"),
            ("(and (not x) no)", BadSort, "not"), ("(+ x y no)", UnknownName, "no"), ("(+ x y) )", BadSort, "shift"),
            ("(f p", BadText, 4), ("(f p)", BadSort, "call"), ("(f f)", BadSort, "call"), ("p no", BadText, 2),
            ("(= (f s) (no", BadSort, "call"), ("(not (not (not (= x s", BadText, 21),
        ):
            self.assert_refused(text, error, value)


class LetTest(ReaderTest):
    def test_bindings(self):
        for text, same in (
            ("(let () p)", "p"), ("(let () (let () x))", "x"), ("(let ((k p)) k)", "p"), ("(let ((k p)) q)", "q"),
            ("(let ((k (+ x 1))) (<= k (+ k 2)))", "(<= (+ x 1) (+ (+ x 1) 2))"),
            ("(let ((k x) (l y)) (<= k l))", "(<= x y)"), ("(let((k x)(l y))(<= l k))", "(<= y x)"),
            ("(let ((k x)) (let ((k y)) k))", "y"), ("(let ((k x)) (let ((k (+ k 1))) k))", "(+ x 1)"),
            ("(let ((k x)) (let ((l (+ k 1)) (k y)) (<= k l)))", "(<= y (+ x 1))"),
            ("(let ((k x)) (<= (let ((k y)) k) k))", "(<= y x)"), ("(let ((k (let ((k x)) k))) k)", "x"),
            ("(let ((k (let ((l x)) l)) (l y)) (<= k l))", "(<= x y)"), ("(let ((v7 p)) (not v7))", "(not p)"),
            ("(and (let ((k p)) k) (let ((k q)) k))", "(and p q)"), ("(let ((K p) (k q)) (and K k))", "(and p q)"),
        ):
            self.assertEqual(parse(self.bank, text), parse(self.bank, same), text)

    def test_terms_do_not_see_their_own_list(self):
        self.assert_refused("(let ((k x) (l k)) l)", UnknownName, "k")
        self.assert_refused("(let ((k k)) k)", UnknownName, "k")
        self.assertEqual(
            parse(self.bank, "(let ((k x)) (let ((k y) (l k)) (<= k l)))"), parse(self.bank, "(<= y x)")
        )

    def test_names_end_with_the_let(self):
        self.assert_refused("(and (let ((k p)) k) k)", UnknownName, "k")
        self.assert_refused("(let ((k (let ((l p)) l))) l)", UnknownName, "l")

    def test_bound_names_as_heads(self):
        self.assert_refused("(let ((k p)) (k))", BadText, 14)
        self.assert_refused("(let ((k p)) (let ((l q)) (not (k x))))", BadText, 32)
        self.assert_refused("(let ((k p) (l (k x))) l)", UnknownName, "k")

    def test_wrong_names(self):
        for word in [*RESERVED, "5", "-5", "1/2", "=", "<=", "+", "_k", "1k", "(", ")", "k-l"]:
            self.assert_refused(f"(let (({word} p)) p)", BadText, 7)
            self.assert_refused(f"(let ((k p) ({word} no", BadText, 13)
        for word in ("x", "thing", "f", "place", "is_old"):
            self.assert_refused(f"(let (({word} p)) p)", NameTaken, word)
            self.assert_refused(f"(let (({word} no", NameTaken, word)
            self.assert_refused(f"(let ((k p)) (let (({word} k)) k))", NameTaken, word)
        self.assert_refused("(let ((k p) (k p)) k)", NameTaken, "k")
        self.assert_refused("(let ((k p) (l q) (k no", NameTaken, "k")
        self.assert_refused("(let ((k no) (k p)) k)", UnknownName, "no")

    def test_other_words_than_required(self):
        for text, place in (
            ("(let p q)", 5), ("(let 5", 5), ("(let ) p)", 5), ("(let (k p) k)", 6), ("(let (p) q)", 6), ("(let (()) p)", 7),
            ("(let ((k)) p)", 8), ("(let ((k p q)) k)", 11), ("(let ((k p (not q))) k)", 11), ("(let ((k p) l) k)", 12),
            ("(let ((k p)))", 12), ("(let ((k p)) k k)", 15), ("(let () p q)", 10), ("(let () p (not q))", 10),
            ("(let () let)", 8), ("(let ((k let)) k)", 9), ("(let () )", 8),
        ):
            self.assert_refused(text, BadText, place)

    def test_after_a_name_was_declared(self):
        text = "(let ((k p)) (not k))"
        parse(self.bank, text)
        self.bank.signature.declare_sort("k")
        self.assert_refused(text, NameTaken, "k")
