"""papersat/meeting.py: points 62 and 63."""

import random
import unittest
from itertools import combinations

from papersat.bank import subterms
from papersat.clauses import gather, part_clauses
from papersat.forms import literal_form
from papersat.log import Log
from papersat.meaning import clause_holds
from papersat.meeting import meeting_pairs, question
from papersat.reader import parse
from tests.goodness import is_good
from tests.sentences import some_sentence
from tests.support import call, new_bank, some_model


def plain_pairs(bank, nodes):
    """The meeting pairs by the words of point 62."""
    pairs = set()
    calls = [node for node in set(nodes) if bank.node(node)[0] == "call"]
    for u, v in combinations(calls, 2):
        if bank.node(u)[1] == bank.node(v)[1]:
            for x, y in [(u, v), *zip(bank.node(u)[2], bank.node(v)[2])]:
                if x != y and bank.sort_of(x) in ("whole", "ratio"):
                    pairs.add((min(x, y), max(x, y)))
    return sorted(pairs)


class PairsTest(unittest.TestCase):
    def setUp(self):
        self.bank = new_bank()
        self.bank.signature.declare_function("rank", ["thing", "place"], "whole")
        self.bank.signature.declare_function("tag", ["whole", "thing", "ratio"], "truth")

    def nodes(self, *texts):
        return [parse(self.bank, text) for text in texts]

    def check(self, nodes, pairs):
        before = list(nodes)
        found = meeting_pairs(self.bank, nodes)
        self.assertEqual(found, sorted((min(pair), max(pair)) for pair in pairs))
        self.assertIs(type(found), list)
        self.assertTrue(all(type(pair) is tuple for pair in found))
        self.assertEqual(list(nodes), before)

    def test_none(self):
        self.check([], [])
        self.check(self.nodes("x", "y", "(f x)", "(+ x 1)", "5", "s", "(+ s t)"), [])
        self.check(self.nodes("(h a b)", "(h b a)", "(at a)", "(at b)", "(is_old a)", "(is_old b)"), [])

    def test_parts_and_calls(self):
        x, y, f, g = self.nodes("x", "y", "(f x)", "(f y)")
        for nodes in ([f, g], (g, f), [x, y, f, g], [g, g, f, x]):
            self.check(nodes, [(x, y), (f, g)])
        self.check([x, y, f], [])

    def test_one_is_a_part_of_the_other(self):
        x, f, g = self.nodes("x", "(f x)", "(f (f x))")
        self.check([g, f], [(x, f), (f, g)])

    def test_parts_that_are_the_same(self):
        x, y, s, t, u, v, w = self.nodes("x", "y", "s", "t", "(g s x)", "(g s y)", "(g t x)")
        self.check([w, v, u], [(x, y), (s, t), (u, v), (u, w), (v, w)])
        self.check([u, v], [(x, y), (u, v)])

    def test_the_sorts_of_the_results_and_the_parts(self):
        a, b, u, v = self.nodes("a", "b", "(rank a home)", "(rank b home)")
        self.check([a, b, v, u], [(u, v)])
        x, s, t, old, new = self.nodes("x", "s", "t", "(tag x a s)", "(tag x b t)")
        self.check([old, new], [(s, t)])
        y, other = self.nodes("y", "(tag y a s)")
        self.check([old, other, new], [(s, t), (x, y)])

    def test_each_pair_once(self):
        x, y, z = self.nodes("x", "y", "z")
        calls = self.nodes("(f x)", "(f y)", "(f z)", "(g s x)", "(g s y)", "(g s z)")
        self.check(calls, [*combinations((x, y, z), 2), *combinations(calls[:3], 2), *combinations(calls[3:], 2)])

    def test_by_the_words_of_the_point(self):
        for seed in range(60):
            chance = random.Random(seed)
            bank = new_bank()
            sentences = [parse(bank, some_sentence(chance, 3)) for _ in range(5)]
            nodes = subterms(bank, sentences)
            chance.shuffle(nodes)
            before = list(bank)
            self.assertEqual(meeting_pairs(bank, nodes), plain_pairs(bank, nodes))
            self.assertEqual(meeting_pairs(bank, tuple(nodes + nodes)), plain_pairs(bank, nodes))
            self.assertEqual(list(bank), before)


class QuestionTest(unittest.TestCase):
    def steps_of(self, bank, sentences, log=None):
        log = Log() if log is None else log
        nodes, numbers = question(bank, log, sentences)
        return nodes, [log.step(number) for number in numbers]

    def test_no_sentences(self):
        bank = new_bank()
        log = Log()
        self.assertEqual(question(bank, log, []), ([], []))
        self.assertEqual(question(bank, log, ()), ([], []))
        self.assertEqual((len(log), len(bank)), (0, 2))

    def test_example(self):
        bank = new_bank()
        sentence = parse(bank, "(not (= (f x) (f y)))")
        log = Log()
        log.write("given", (), None)
        nodes, numbers = question(bank, log, [sentence])
        self.assertEqual(numbers, list(range(1, len(log))))
        x, y, f, g = (parse(bank, text) for text in ("x", "y", "(f x)", "(f y)"))
        args, calls = bank.seek("equal", None, (x, y)), bank.seek("equal", None, (f, g))
        mosts = [bank.seek("most", None, pair) for pair in ((f, g), (g, f), (x, y), (y, x))]
        self.assertEqual(nodes, sorted([x, y, f, g, args, calls, sentence, *mosts]))
        self.assertEqual(mosts, sorted(mosts))
        one, other, third, fourth = mosts
        self.assertEqual(log.all_steps()[1:], [
            ("part", (-calls, one), calls), ("part", (-calls, other), calls), ("part", (calls, -one, -other), calls),
            ("part", (-calls, -sentence), sentence), ("part", (calls, sentence), sentence),
            ("part", (-args, third), args), ("part", (-args, fourth), args), ("part", (args, -third, -fourth), args),
        ])

    def test_equal_nodes_in_the_order_of_the_pairs(self):
        bank = new_bank()
        sentence = parse(bank, "(and (<= (f x) (f y)) (<= (f z) 0))")
        gathered = gather(bank, [sentence])
        count = len(bank)
        pairs = meeting_pairs(bank, gathered)
        nodes, _ = question(bank, Log(), [sentence])
        made = [bank.node(count + 1 + k) for k in range(len(pairs))]
        self.assertEqual(made, [("equal", None, pair) for pair in pairs])
        self.assertEqual(meeting_pairs(bank, nodes), pairs)
        for pair in pairs:
            self.assertIn(bank.seek("most", None, pair), nodes)
            self.assertIn(bank.seek("most", None, pair[::-1]), nodes)

    def test_most_nodes_without_rows(self):
        for text, holds in (
            ("(<= 3 3)", True), ("(<= 3 4)", True), ("(<= 4 3)", False), ("(<= (+ x 1) x)", False), ("(<= x (+ x 0))", True),
            ("(<= x x)", True), ("(<= 1/2 1/2)", True), ("(<= 1/3 1/2)", True), ("(<= 1/2 1/3)", False), ("(<= s s)", True),
            ("(<= (+ s 1/9) s)", False), ("(<= (* 0/1 s) 0/1)", True), ("(<= (+ s (* -1/1 s)) -1/1)", False),
        ):
            bank = new_bank()
            node = parse(bank, text)
            nodes, steps = self.steps_of(bank, [node])
            self.assertIn(node, nodes)
            self.assertEqual(steps, [("sum", (node,) if holds else (-node,), ((1, 1),))], text)
            self.assertTrue(is_good(bank, steps, 0))
        for text in ("(<= x 3)", "(<= 3 x)", "(<= x y)", "(<= s 1/2)", "(<= (* 2/1 s) s)"):
            bank = new_bank()
            self.assertEqual(self.steps_of(bank, [parse(bank, text)])[1], [])

    def test_less_and_equal_of_numbers_without_rows(self):
        bank = new_bank()
        nodes, steps = self.steps_of(bank, (parse(bank, "(< 1 2)"), parse(bank, "(= s s)")))
        self.assertEqual([step[0] for step in steps].count("sum"), 2)
        self.assertEqual(sorted(nodes), nodes)

    def test_by_the_words_of_the_point(self):
        for seed in range(40):
            chance, other_chance = random.Random(seed), random.Random(seed)
            one, other = new_bank(), new_bank()
            sentences = [parse(one, some_sentence(chance, 3)) for _ in range(5)]
            self.assertEqual(sentences, [parse(other, some_sentence(other_chance, 3)) for _ in range(5)])
            passed = list(sentences)
            nodes, steps = self.steps_of(one, passed)
            self.assertEqual(passed, sentences)
            gathered = gather(other, sentences)
            meeting = [other.make("equal", None, pair) for pair in plain_pairs(other, gathered)]
            self.assertEqual(nodes, gather(other, gathered + meeting))
            self.assertEqual(list(one), list(other))
            self.assertEqual(meeting_pairs(one, nodes), plain_pairs(other, gathered))
            wanted = []
            for node in nodes:
                wanted += [("part", clause, node) for clause in part_clauses(other, node)]
                if other.node(node)[0] == "most" and not literal_form(other, node)[0][1]:
                    wanted.append(("sum", (node if literal_form(other, node)[0][0][0] <= 0 else -node,), ((1, 1),)))
            self.assertEqual(steps, wanted)
            self.assertTrue(all(is_good(one, steps, number) for number in range(len(steps))))
            model = some_model(seed, one.signature)
            self.assertTrue(all(clause_holds(one, model, step[1]) for step in steps[::7]))

    def test_the_same_question_again(self):
        bank = new_bank()
        sentences = [parse(bank, text) for text in ("(= (f x) (f y))", "(distinct s t (g s x))", "(is_old a)")]
        first = self.steps_of(bank, sentences)
        count = len(bank)
        self.assertEqual(self.steps_of(bank, sentences), first)
        self.assertEqual(self.steps_of(bank, sentences[::-1] * 2), first)
        self.assertEqual(len(bank), count)
        self.assertEqual(first[0].count(call(bank, "a")), 1)
