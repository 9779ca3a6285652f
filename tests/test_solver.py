"""papersat/solver.py: points 1, 2, 71 and 72."""

import itertools
import random
import unittest

from papersat.bank import Bank, copy_term
from papersat.checker import check
from papersat.errors import BadSort
from papersat.kept import Kept
from papersat.meaning import meaning
from papersat.models import Model, model_text
from papersat.papertext import read_paper, write_paper
from papersat.printer import print_term
from papersat.reader import parse
from papersat.solver import Answer, solve
from tests.answers import fractions_exist, hold, refused_sentences
from tests.layers import heights_exist, least_groups
from tests.sentences import knotted_sentences, some_sentence
from tests.support import new_bank


class Case(unittest.TestCase):
    def solve(self, texts, bank=None, **options):
        """The side of the answer, which is held against the meanings and the rules."""
        bank = new_bank() if bank is None else bank
        sentences = [parse(bank, text) for text in texts]
        return hold(self, bank, sentences, solve(bank, sentences, **options))

    def yes(self, *texts):
        self.assertIs(self.solve(texts), True, texts)

    def no(self, *texts):
        self.assertIs(self.solve(texts), False, texts)


class AnswerTest(Case):
    def test_no_sentences(self):
        bank = new_bank()
        for none in ([], ()):
            answer = solve(bank, none)
            self.assertTrue(hold(self, bank, [], answer))
            self.assertIs(type(answer), Answer)
            self.assertEqual(model_text(answer.model), model_text(Model(bank.signature)))

    def test_attributes(self):
        bank = new_bank()
        p = parse(bank, "p")
        yes, no = solve(bank, [p]), solve(bank, [2, p])
        self.assertEqual((yes.sentences, yes.yes, yes.paper, yes.core), ([p], True, None, None))
        self.assertEqual((no.sentences, no.yes, no.model, no.paper, no.core), ([2, p], False, None, [("part", (-2,), 2)], [2]))
        self.assertEqual([bool(yes), bool(no)], [True, False])

    def test_each_sentence_once_in_the_order_of_the_first(self):
        bank = new_bank()
        p, q, r = (parse(bank, text) for text in ("(or p q)", "q", "(not q)"))
        answer = solve(bank, [q, p, q, q, p])
        self.assertEqual(answer.sentences, [q, p])
        self.assertTrue(hold(self, bank, [q, p, q, q, p], answer))
        answer = solve(bank, (r, p, q, r, q))
        self.assertFalse(hold(self, bank, (r, p, q, r, q), answer))
        self.assertEqual((answer.sentences, answer.core), ([r, p, q], [r, q]))

    def test_true_and_false(self):
        self.yes("true")
        self.no("false")
        self.yes("(and)")
        self.no("(or)")
        self.no("(not (and))")
        self.yes("(not (or))", "true", "(not false)")
        self.no("true", "(and)", "(or)")
        self.no("(= true false)")
        self.yes("(distinct true false)")
        self.no("(distinct true false true)")

    def test_the_passed_list_stays_and_is_copied(self):
        bank = new_bank()
        sentences = [parse(bank, "p"), parse(bank, "(not p)"), 1, 1]
        copy = list(sentences)
        answer = solve(bank, sentences)
        self.assertEqual(sentences, copy)
        sentences.clear()
        self.assertEqual(answer.sentences, copy[:3])
        self.assertEqual(answer.core, copy[:2])

    def test_nodes_of_other_sorts(self):
        for text, op in (("x", "call"), ("5", "whole"), ("(+ x 1)", "shift"), ("1/2", "ratio"), ("(+ s t)", "sum"), ("(* 1/2 s)", "scale"), ("(if p a b)", "if")):
            bank = new_bank()
            good, wrong, less = parse(bank, "(< x y)"), parse(bank, text), parse(bank, "u")
            kept = Kept()
            before = list(bank)
            for sentences in ([wrong], [good, wrong], [2, good, wrong, less], (wrong, less)):
                with self.assertRaises(BadSort) as caught:
                    solve(bank, sentences, kept=kept)
                self.assertEqual(caught.exception.op, op)
                self.assertEqual(list(bank), before)
                self.assertEqual(kept.lists(), [])

    def test_papers_of_known_shape(self):
        bank = new_bank()
        low, high = parse(bank, "(<= 2 x)"), parse(bank, "(<= x 1)")
        answer = solve(bank, [low, high])
        self.assertEqual(answer.core, [low, high])
        self.assertEqual(answer.paper[-1][1], tuple(sorted((-low, -high), key=abs)))
        same = parse(bank, "(not (= a a))")
        answer = solve(bank, [low, same])
        self.assertEqual(answer.core, [same])
        self.assertIn("same", [kind for kind, _, _ in answer.paper])


class KindsTest(Case):
    def test_truth_values(self):
        self.yes("p", "(not q)", "(imply q p)", "(if p (not q) q)")
        self.no("p", "(imply p q)", "(not q)")
        self.no("(= p q)", "(= q r)", "(not (= p r))")
        self.no("(distinct p q r)")
        self.yes("(distinct p q)", "(distinct q r)")

    def test_declared_sorts(self):
        self.yes("(distinct a b c)", "(= (h a b) (h b a))")
        self.no("(= a b)", "(distinct (at a) (at b))")
        self.no("(= (h a a) a)", "(not (= (h (h (h a a) a) (h a a)) a))")
        self.yes("(= (h a a) b)", "(= (h b b) a)", "(not (= a b))")
        self.no("(is_old a)", "(not (is_old b))", "(= a b)")
        self.no("(or (= a b) (= a c))", "(not (= (at a) (at b)))", "(not (= (at a) (at c)))")

    def test_whole_numbers(self):
        self.no("(< x y)", "(< y (+ x 1))")
        self.yes("(< x y)", "(< y (+ x 2))", "(= x 7)")
        self.no("(<= x 5)", "(<= 6 x)")
        self.no("(distinct x y z)", "(<= 0 x)", "(< x 2)", "(<= 0 y)", "(< y 2)", "(<= 0 z)", "(< z 2)")
        self.no("(= (f x) x)", "(= (f 3) 4)", "(<= x 3)", "(<= 3 x)")
        self.no("(= 3 4)")
        self.yes("(not (= 3 4))", "(< -5 0)")

    def test_fractions(self):
        self.yes("(< s t)", "(< t (+ s 1/1000000))")
        self.no("(< s t)", "(<= t s)")
        self.no("(= (+ s t) 1/1)", "(= s t)", "(not (= s 1/2))")
        self.no("(<= (* -2/3 s) 0/1)", "(< s 0/1)")
        self.yes("(= (* 3/1 s) (* 2/1 t))", "(< s t)")
        self.no("(= (* 3/1 s) (* 2/1 t))", "(< s t)", "(< t 0/1)")
        self.no("(< (+ s t u) 1/1)", "(<= 1/3 s)", "(<= 1/3 t)", "(<= 1/3 u)")

    def test_mixtures(self):
        self.no("(<= x y)", "(<= y x)", "(not (= (g s x) (g s y)))")
        self.yes("(<= x y)", "(<= y (+ x 1))", "(not (= (g s x) (g s y)))")
        self.no("(= x (if p y z))", "(imply p (< y 3))", "(imply (not p) (< z 3))", "(<= 3 x)")
        self.no("(<= s t)", "(<= t s)", "(= (g s 1) 0/1)", "(< (g t 1) 0/1)")
        self.no("(is_old (if (< x 0) a b))", "(not (is_old b))", "(< 0 x)")
        self.yes("(is_old (if (< x 0) a b))", "(not (is_old b))")
        self.no("(= (at a) home)", "(distinct (at (if p a b)) home)", "p")
        self.no("(= (f x) (f y))", "(imply (= (f x) (f y)) (= x (+ y 1)))", "(<= x y)")

    def test_more_things_than_places(self):
        for count in (2, 3, 4, 5):
            bank = new_bank()
            names = [f"n{k}" for k in range(count)]
            for name in names:
                bank.signature.declare_function(name, [], "whole")
                bank.signature.declare_function(name + "s", [], "thing")
            room = [f"(and (<= 1 {name}) (<= {name} {count - 1}))" for name in names]
            self.assertFalse(self.solve([f"(distinct {' '.join(names)})", *room], bank))
            room[0] = f"(and (<= 1 {names[0]}) (<= {names[0]} {count}))"
            self.assertTrue(self.solve([f"(distinct {' '.join(names)})", *room], bank))
            things = [name + "s" for name in names]
            room = [f"(or {' '.join(f'(= {name} (h {place} {place}))' for place in things[1:])})" for name in things]
            self.assertFalse(self.solve([f"(distinct {' '.join(things)})", *room], bank))
            self.assertTrue(self.solve([f"(distinct {' '.join(things)})", *room[1:]], bank))

    def test_more_holes_by_truth_values_alone(self):
        for count in (2, 3, 4):
            bank = new_bank()
            for i in range(count + 1):
                for j in range(count):
                    bank.signature.declare_function(f"in{i}_{j}", [], "truth")
            texts = [f"(or {' '.join(f'in{i}_{j}' for j in range(count))})" for i in range(count + 1)]
            pairs = list(itertools.combinations(range(count + 1), 2))
            texts += [f"(and {' '.join(f'(not (and in{i}_{j} in{k}_{j}))' for i, k in pairs)})" for j in range(count)]
            self.assertFalse(self.solve(texts, bank))
            self.assertTrue(self.solve(texts[1:], bank))

    def test_long_numbers(self):
        far = "9" * 18
        self.no(f"(<= x {far})", f"(<= (+ x -{far}) y)", f"(< (+ y {far}) x)")
        self.no(f"(= (* {far}/1 s) 1/{far})", f"(< (* {far}/1 t) s)", "(<= 1/1 t)")
        self.yes(f"(= (* {far}/1 s) 1/{far})", f"(< (* {far}/1 t) s)", "(<= 0/1 t)")


class PlainTest(Case):
    """Against plain versions of what solving decides."""

    def truth_text(self, chance, depth, names):
        if depth == 0 or chance.random() < 0.2:
            return chance.choice((*names, *names, "true", "false"))

        def part():
            return self.truth_text(chance, depth - 1, names)

        op = chance.choice(("not", "and", "or", "imply", "if", "=", "distinct"))
        counts = {"not": 1, "imply": 2, "if": 3, "=": 2}
        count = counts.get(op, chance.randrange(2 if op == "distinct" else 0, 4))
        return f"({' '.join([op] + [part() for _ in range(count)])})"

    def test_truth_functions_against_all_their_rows(self):
        sides = {True: 0, False: 0}
        for seed in range(150):
            chance = random.Random(seed)
            bank = new_bank()
            names = ["p", "q", "r", "(is_old a)", "(is_old (h a a))"][:chance.randrange(1, 6)]
            texts = [self.truth_text(chance, 3, names) for _ in range(chance.randrange(1, 7))]
            sentences = [parse(bank, text) for text in texts]
            wanted = False
            for signs in itertools.product((False, True), repeat=len(names)):
                model = Model(bank.signature)
                model.give("h", (0, 0), 1)
                for name, sign in zip(names, signs):
                    _, function, parts = bank.node(parse(bank, name))
                    model.give(function, [meaning(bank, model, part) for part in parts], sign)
                wanted = wanted or all(meaning(bank, model, sentence) for sentence in sentences)
            self.assertIs(self.solve(texts, bank), wanted, texts)
            sides[wanted] += 1
        self.assertGreater(min(sides.values()), 30, sides)

    def test_equalities_against_the_least_equivalence(self):
        sides = {True: 0, False: 0}
        terms = ["a", "b", "c", "(h a b)", "(h b a)", "(h c c)", "(h (h a b) c)", "(h (h b a) c)", "(h a a)"]
        for seed in range(150):
            chance = random.Random(seed)
            bank = new_bank()
            pairs = [chance.sample(terms, 2) for _ in range(chance.randrange(2, 9))]
            equal = [chance.random() < 0.6 for _ in pairs]
            points = [parse(bank, term) for term in terms]
            joins = [[parse(bank, x), parse(bank, y)] for (x, y), sign in zip(pairs, equal) if sign]
            groups = least_groups(bank, points, joins)
            wanted = True
            for (x, y), sign in zip(pairs, equal):
                if not sign and any(parse(bank, x) in group and parse(bank, y) in group for group in groups):
                    wanted = False
            texts = [f"(= {x} {y})" if sign else f"(not (= {x} {y}))" for (x, y), sign in zip(pairs, equal)]
            self.assertIs(self.solve(texts, bank), wanted, texts)
            sides[wanted] += 1
        self.assertGreater(min(sides.values()), 30, sides)

    def test_differences_against_shortest_ways(self):
        sides = {True: 0, False: 0}
        for seed in range(200):
            chance = random.Random(seed)
            texts, limits = [], []
            for _ in range(chance.randrange(2, 13)):
                i, j = chance.choice("xyz0"), chance.choice("xyz0")
                k = chance.randrange(-4, 6)
                shifted = f"(+ {j} {k})" if chance.random() < 0.8 else str(k)
                j = j if shifted.startswith("(") else "0"
                if chance.random() < 0.6:
                    texts.append(f"(<= {i} {shifted})")
                    limits.append((i, j, k))
                else:
                    texts.append(f"(not (<= {i} {shifted}))")
                    limits.append((j, i, -k - 1))
            wanted = heights_exist(limits)
            self.assertIs(self.solve(texts), wanted, texts)
            sides[wanted] += 1
        self.assertGreater(min(sides.values()), 40, sides)

    def test_fractions_against_elimination(self):
        sides = {True: 0, False: 0}
        for seed in range(150):
            chance = random.Random(seed)
            texts, bounds = [], []
            for _ in range(chance.randrange(2, 9)):
                numbers = [chance.randrange(-2, 3) for _ in range(3)]
                constant = chance.randrange(-3, 4)
                total = f"(+ {' '.join(f'(* {number}/1 {name})' for number, name in zip(numbers, 'stu'))})"
                kind = chance.randrange(4)
                texts.append([
                    f"(<= {total} {constant}/1)", f"(< {total} {constant}/1)", f"(not (<= {total} {constant}/1))", f"(= {total} {constant}/1)",
                ][kind])
                opposite = [-number for number in numbers]
                bounds += [
                    [(numbers, -constant, False)], [(numbers, -constant, True)], [(opposite, constant, True)],
                    [(numbers, -constant, False), (opposite, constant, False)],
                ][kind]
            wanted = fractions_exist(bounds, 3)
            self.assertIs(self.solve(texts), wanted, texts)
            sides[wanted] += 1
        self.assertGreater(min(sides.values()), 20, sides)


class SameSideTest(Case):
    def test_orders_banks_restarts_and_kept_clauses(self):
        sides = {True: 0, False: 0}
        for seed in range(50):
            chance = random.Random(seed)
            texts = knotted_sentences(chance, 20, chance.choice((2, 2, 3)))
            texts = chance.sample(texts, chance.randrange(10, 21))
            kept = Kept()
            old = new_bank()
            for text in chance.sample(texts, len(texts)):
                parse(old, f"(not {text})")
            found = [self.solve(texts)]
            for restarts in (0, 1, 12):
                chance.shuffle(texts)
                found.append(self.solve(texts, restarts=restarts))
                found.append(self.solve(texts, old, restarts=restarts))
                found.append(self.solve(texts, old, kept=kept, restarts=restarts))
                self.solve(chance.sample(texts, len(texts) // 2), old, kept=kept)
            self.assertEqual(len(set(found)), 1, texts)
            sides[found[0]] += 1
        self.assertGreater(min(sides.values()), 12, sides)

    def test_the_same_calls_give_the_same_results(self):
        for seed in range(12):
            def run():
                chance = random.Random(seed)
                bank = new_bank()
                kept = Kept()
                results = []
                for _ in range(4):
                    sentences = [parse(bank, text) for text in knotted_sentences(chance, 16)]
                    answer = solve(bank, sentences, kept=kept)
                    results.append((answer.yes, answer.paper, answer.core, answer.model and model_text(answer.model)))
                return results, list(bank), kept.lists()

            self.assertEqual(run(), run())

    def test_sentences_of_all_shapes(self):
        sides = {True: 0, False: 0}
        for seed in range(150):
            chance = random.Random(seed)
            sides[self.solve([some_sentence(chance, 2) for _ in range(chance.randrange(1, 12))])] += 1
        self.assertGreater(min(sides.values()), 20, sides)

    def test_knotted_sentences(self):
        sides = {True: 0, False: 0}
        for seed in range(150):
            chance = random.Random(900 + seed)
            sides[self.solve(knotted_sentences(chance, 20, chance.choice((2, 2, 3))))] += 1
        self.assertGreater(min(sides.values()), 30, sides)


class LimitsTest(Case):
    """Questions as great as point 4 lets them be."""

    def declared(self, count, sort, letter):
        bank = new_bank()
        names = [f"{letter}{k}" for k in range(count)]
        for name in names:
            bank.signature.declare_function(name, [], sort)
        return bank, names

    def test_twelve_fractions_with_long_numbers(self):
        chance = random.Random(1)
        bank, names = self.declared(12, "ratio", "n")
        texts = []
        for k in range(22):
            parts = [f"(* {chance.randrange(-10 ** 18 + 1, 10 ** 18)}/{chance.randrange(1, 10 ** 18)} {name})" for name in names]
            texts.append(f"({chance.choice(('<', '<='))} (+ {' '.join(parts)}) {chance.randrange(10 ** 18)}/{chance.randrange(1, 10 ** 18)})")
        self.assertTrue(self.solve(texts[:8], bank))
        self.solve(texts, bank)
        self.assertFalse(self.solve([*texts, f"(not {texts[3]})"], bank))

    def test_twelve_different_whole_numbers(self):
        bank, names = self.declared(12, "whole", "n")
        texts = [f"(distinct {' '.join(names)})"] + [f"(and (<= 0 {name}) (<= {name} 11))" for name in names]
        self.assertTrue(self.solve(texts, bank))
        self.assertFalse(self.solve([*texts, f"(<= {names[0]} -1)"], bank))

    def test_deep_terms(self):
        # Thirteen calls within each other meet in so many pairs that the question has about 400 nodes.
        deep = "(f " * 13 + "x" + ")" * 13
        truth = "(not " * 50 + "(is_old " + "(h a " * 5 + "b" + ")" * 56
        self.assertTrue(self.solve([f"(< {deep} x)", "(= (f x) (+ x -1))", truth]))
        self.assertFalse(self.solve([f"(not (= {deep} x))", "(= (f x) x)", truth]))
        nested = "(and " * 98 + "p" + ")" * 98
        self.assertFalse(self.solve([nested, "(not p)"]))

    def test_long_texts(self):
        bank, names = self.declared(60, "truth", "name_of_many_letters_")
        text = names[0]
        while len(text) < 9000:
            text = f"(or (not {' '.join(names[:1])}) (and {text} {text}))"
        self.assertTrue(self.solve([text], bank))
        self.assertFalse(self.solve([f"(not {text})", "(or false false)"], bank))

    def test_many_sentences(self):
        bank, names = self.declared(25, "whole", "n")
        texts = [f"(< {one} {other})" for one, other in zip(names, names[1:])]
        self.assertTrue(self.solve(texts, bank))
        self.assertFalse(self.solve([*texts[:23], f"(<= {names[23]} (+ {names[0]} 22))"], bank))


class OtherBankTest(Case):
    def test_a_paper_read_at_another_bank(self):
        for _, bank, answer in refused_sentences(self, 60, 20):
            other, steps = read_paper(bank.signature, write_paper(bank, answer.paper))
            again = [parse(other, print_term(bank, sentence)) for sentence in answer.core]
            self.assertTrue(check(other, again, steps))
            self.assertFalse(check(other, again[:-1], steps))

    def test_sentences_copied_to_another_bank(self):
        for seed in range(20):
            chance = random.Random(seed)
            bank = new_bank()
            sentences = [parse(bank, text) for text in knotted_sentences(chance, 16)]
            other = Bank(bank.signature)
            copies = [copy_term(bank, sentence, other) for sentence in reversed(sentences)]
            answer = solve(other, copies)
            self.assertEqual(hold(self, other, copies, answer), solve(bank, sentences).yes)


if __name__ == "__main__":
    unittest.main()
