"""papersat/building.py: point 65."""

import random
import unittest

from papersat.building import build_model
from papersat.clauses import clause_of
from papersat.joined import Joined
from papersat.log import Log
from papersat.meaning import literal_holds, meanings
from papersat.meeting import question
from papersat.models import model_text
from papersat.ratios import ratio
from papersat.reader import parse
from papersat.search import Search
from tests.layers import model_of
from tests.sentences import some_sentence
from tests.support import new_bank


class Row:
    """A row for the question of some texts, found by a search, and its model."""

    def __init__(self, texts, bank=None):
        self.bank = new_bank() if bank is None else bank
        log = Log()
        self.sentences = [parse(self.bank, text) for text in texts]
        self.nodes, numbers = question(self.bank, log, self.sentences)
        self.clauses = [log.clause_at(number) for number in numbers]
        self.joined = Joined(self.bank, log, self.nodes)
        truths = [node for node in self.nodes if self.bank.sort_of(node) == "truth"]
        kind, self.row = Search(log, truths, numbers, self.joined).ask(self.sentences)
        self.model = None
        if kind == "yes":
            self.model = build_model(self.bank, self.nodes, self.row, self.joined)

    def look(self, text):
        """The value that the model has for a call whose parts are nodes of the question."""
        node = parse(self.bank, text)
        return meanings(self.bank, self.model, [node])[node]


class SortsTest(unittest.TestCase):
    def test_declared_sorts(self):
        built = Row(["(= a c)", "(not (= a b))", "(= home (at a))", "(= (h a b) (h b a))"])
        # The classes of things have the least points a (with c), b and one of the calls of h.
        self.assertEqual([built.look(text) for text in ("a", "c", "b")], [0, 0, 1])
        self.assertEqual(built.look("home"), 0)
        self.assertEqual(built.model.rows_of("at"), [((0,), 0)])
        self.assertEqual({value for _, value in built.model.rows_of("h")}, {2})
        self.assertEqual([arguments for arguments, _ in built.model.rows_of("h")], [(0, 1), (1, 0)])

    def test_each_sort_is_numbered_by_itself(self):
        built = Row(["(distinct (at a) home (at b))", "(distinct a b c)"])
        self.assertEqual([built.look(text) for text in ("a", "b", "c")], [0, 1, 2])
        self.assertEqual([built.look(text) for text in ("(at a)", "home", "(at b)")], [0, 1, 2])

    def test_classes_are_numbered_by_their_least_points(self):
        # The nodes are made in the order c, b, a, so the least point of the class of a is c.
        built = Row(["(distinct c b)", "(= a c)"])
        self.assertEqual([built.look(text) for text in "cba"], [0, 1, 0])

    def test_if_terms_and_calls_that_are_equal(self):
        built = Row(["(= (if p a b) c)", "p", "(distinct a b)"])
        self.assertEqual([built.look(text) for text in ("a", "b", "c", "(if p a b)")], [0, 1, 0, 0])

    def test_whole_numbers(self):
        built = Row(["(= (+ x 2) 7)", "(<= y -3)", "(<= -3 y)", "(= (f (+ x 1)) (+ y 1))"])
        self.assertEqual(built.model.rows_of("x"), [((), 5)])
        self.assertEqual(built.model.rows_of("y"), [((), -3)])
        self.assertEqual(built.model.rows_of("f"), [((6,), -2)])

    def test_whole_numbers_without_a_height(self):
        built = Row(["(is_old a)", "(= (f x) (f x))"])
        self.assertEqual(built.model.rows_of("x"), [((), 0)])
        self.assertEqual(built.model.rows_of("f"), [((0,), 0)])

    def test_ratios(self):
        built = Row(["(= (+ s t) 3/1)", "(= (+ s (* -1/1 t)) 1/2)", "(= (g (* 2/1 s) 4) (+ t 1/4))"])
        self.assertEqual(built.model.rows_of("s"), [((), (7, 4))])
        self.assertEqual(built.model.rows_of("t"), [((), (5, 4))])
        self.assertEqual(built.model.rows_of("g"), [(((7, 2), 4), (3, 2))])

    def test_ratios_without_a_value(self):
        built = Row(["(= (g s 2) (g s 2))"])
        self.assertEqual(built.model.rows_of("g"), [(((0, 1), 2), (0, 1))])
        self.assertEqual(built.model.rows_of("s"), [((), (0, 1))])

    def test_calls_of_sort_truth(self):
        built = Row(["p", "(not q)", "(is_old a)", "(not (is_old b))"])
        self.assertEqual(built.model.rows_of("p"), [((), True)])
        self.assertEqual(built.model.rows_of("q"), [((), False)])
        self.assertEqual(built.model.rows_of("is_old"), [((0,), True), ((1,), False)])
        self.assertEqual(built.model.rows_of("r"), [])

    def test_no_other_rows_and_the_first_defaults(self):
        built = Row(["(< x y)", "(= a b)"])
        tables = {name: built.model.rows_of(name) for name in built.bank.signature.functions()}
        self.assertEqual({name for name in tables if tables[name]}, {"x", "y", "a", "b"})
        for name in tables:
            first = {"truth": False, "ratio": (0, 1)}.get(built.bank.signature.result_of(name), 0)
            default = built.model.default_of(name)
            self.assertEqual((default, type(default)), (first, type(first)))

    def test_no_sentences(self):
        built = Row([])
        self.assertEqual(built.model.signature, built.bank.signature)
        self.assertTrue(all(not built.model.rows_of(name) for name in built.bank.signature.functions()))

    def test_long_numbers(self):
        far = "9" * 18
        built = Row([f"(= x {far})", f"(= (+ y {far}) (+ x -{far}))", f"(= s (* {far}/1 t))", f"(= t {far}/7)"])
        number = int(far)
        self.assertEqual([built.look(text) for text in "xy"], [number, -number])
        self.assertEqual(built.look("s"), ratio(number * number, 7))


class JoiningTest(unittest.TestCase):
    def check(self, built):
        found = meanings(built.bank, built.model, built.nodes)
        for literal in built.row:
            self.assertIs(found[abs(literal)], literal > 0)
            self.assertTrue(literal_holds(built.bank, built.model, literal))
        self.assertTrue(all(found[sentence] is True for sentence in built.sentences))
        self.assertTrue(all(any(literal in built.row for literal in clause) for clause in built.clauses))
        again = model_of(built.bank, built.nodes, built.row, built.joined)
        self.assertEqual(model_text(built.model), model_text(again))

    def test_mixed_sentences(self):
        for texts in (
            ["(distinct x y z)", "(<= 0 x)", "(< z 3)", "(= (f x) y)", "(= (f y) z)"],
            ["(< s t)", "(< t u)", "(< u (+ s 1/1000))", "(not (= (g s x) (g t x)))"],
            ["(= (f (f x)) x)", "(not (= (f x) x))", "(is_old (if (< x 3) a b))"],
            ["(<= x y)", "(<= y x)", "(= (g s x) 1/2)", "(< (g s y) (g t y))"],
            ["(= a (h a b))", "(distinct (at a) (at b) home)", "(is_old (h a b))", "(not (is_old b))"],
            ["(or p q)", "(imply p (not q))", "(= p (is_old a))", "(if p (not q) q)"],
            ["(distinct s t u)", "(= (+ s t) (* 2/1 u))", "(<= s 1/3)", "(<= 1/4 t)"],
        ):
            built = Row(texts)
            self.assertIsNotNone(built.model, texts)
            self.check(built)

    def test_by_chance(self):
        count = 0
        for seed in range(200):
            chance = random.Random(seed)
            built = Row([some_sentence(chance, 2) for _ in range(chance.randrange(1, 12))])
            if built.model is not None:
                count += 1
                self.check(built)
        self.assertGreater(count, 100)

    def test_the_row_in_any_order(self):
        built = Row(["(distinct x y z)", "(or (is_old a) p)", "(< s t)", "(= (f x) 3)"])
        wanted = model_text(built.model)
        for seed in range(5):
            row = list(built.row)
            random.Random(seed).shuffle(row)
            nodes = tuple(built.nodes)
            kept = tuple(row)
            self.assertEqual(model_text(build_model(built.bank, nodes, tuple(row), built.joined)), wanted)
            self.assertEqual(model_text(build_model(built.bank, list(nodes), row, built.joined)), wanted)
            self.assertEqual(tuple(row), kept)

    def test_no_nodes_are_made(self):
        built = Row(["(distinct x y z)", "(or (is_old a) p)", "(< s t)", "(= (f x) 3)"])
        before = list(built.bank)
        model = build_model(built.bank, built.nodes, built.row, built.joined)
        self.assertEqual(list(built.bank), before)
        self.assertIs(model.signature, built.bank.signature)
        model.otherwise("x", 9)
        self.assertEqual(built.model.default_of("x"), 0)

    def test_rows_told_by_hand(self):
        # Each literal is told in turn; the row need not come from a search.
        bank = new_bank()
        sentence = parse(bank, "(or (= a b) (<= x 2) p)")
        log = Log()
        nodes, numbers = question(bank, log, [sentence])
        equal, most, p = bank.node(sentence)[2]
        for literals in ((equal, -most, p), (-equal, most, -p), (-equal, -most, p), (equal, most, p)):
            row = [sentence, *literals]
            self.assertEqual(len(row), len([node for node in nodes if bank.sort_of(node) == "truth"]))
            self.assertTrue(all(any(each in row for each in log.clause_at(number)) for number in numbers))
            joined = Joined(bank, log, nodes)
            for literal in row:
                joined.told(literal)
            self.assertIsNone(joined.fault())
            model = build_model(bank, nodes, row, joined)
            self.assertTrue(all(literal_holds(bank, model, literal) for literal in row))
            self.assertIsNotNone(clause_of(row))
            self.assertEqual(model.look("a", ()) == model.look("b", ()), equal in row)


if __name__ == "__main__":
    unittest.main()
