"""papersat/cores.py: point 81."""

import random
import unittest

from papersat.cores import least_core
from papersat.errors import BadSort
from papersat.kept import Kept
from papersat.meaning import meaning
from papersat.models import Model
from papersat.reader import parse
from papersat.solver import Answer, solve
from tests.answers import hold
from tests.sentences import knotted_sentences
from tests.support import new_bank


class LeastCoreTest(unittest.TestCase):
    def check(self, bank, sentences, **options):
        """The core, held against point 81, or None."""
        passed = list(sentences)
        found = least_core(bank, sentences, **options)
        self.assertEqual(list(sentences), passed)
        if found is None:
            self.assertTrue(solve(bank, sentences).yes)
            return None
        self.assertIs(type(found), tuple)
        answer, models = found
        self.assertEqual((type(answer), type(models)), (Answer, list))
        core = answer.sentences
        self.assertFalse(hold(self, bank, core, answer))
        self.assertEqual(answer.core, core)
        self.assertEqual(core, [sentence for sentence in dict.fromkeys(sentences) if sentence in core])
        self.assertEqual(len(models), len(core))
        for sentence, model in zip(core, models):
            self.assertIs(type(model), Model)
            self.assertTrue(all(meaning(bank, model, other) is True for other in core if other != sentence))
            self.assertIs(meaning(bank, model, sentence), False)
            self.assertTrue(solve(bank, [other for other in core if other != sentence]).yes)
        return core

    def texts(self, *texts):
        bank = new_bank()
        return bank, [parse(bank, text) for text in texts]

    def test_sentences_that_can_stand(self):
        for texts in ((), ("p",), ("(< x y)", "(< y z)"), ("true", "p", "p")):
            bank, sentences = self.texts(*texts)
            self.assertIsNone(self.check(bank, sentences))
            self.assertIsNone(self.check(bank, tuple(sentences)))

    def test_one_sentence(self):
        bank, sentences = self.texts("p", "false", "q")
        self.assertEqual(self.check(bank, sentences), [2])
        bank, sentences = self.texts("(< x x)")
        self.assertEqual(self.check(bank, sentences), sentences)

    def test_the_only_core(self):
        bank, sentences = self.texts("(< x y)", "p", "(< y z)", "(= a b)", "(< z x)", "(not (= b c))")
        for order in (sentences, sentences[::-1], sentences[3:] + sentences[:3]):
            core = self.check(bank, order)
            self.assertEqual(core, [sentence for sentence in order if sentence in (sentences[0], sentences[2], sentences[4])])

    def test_more_than_one_core(self):
        bank, sentences = self.texts("p", "(not p)", "(and p q)", "(< x 3)", "(< 2 x)", "(not q)")
        for _ in range(6):
            sentences = sentences[1:] + sentences[:1]
            self.assertEqual(len(self.check(bank, sentences)), 2)

    def test_sentences_that_are_passed_twice(self):
        bank, sentences = self.texts("q", "p", "q", "(not p)", "p", "(not p)")
        self.assertEqual(self.check(bank, sentences), [sentences[1], sentences[3]])
        self.assertEqual(self.check(bank, sentences[::-1]), [sentences[3], sentences[1]])

    def test_a_sentence_that_is_needed_in_the_end_alone(self):
        bank, sentences = self.texts(
            "(or p q)", "(or p (not q))", "(or (not p) q)", "(or (not p) (not q))", "(imply p r)", "(imply q r)", "(not r)",
        )
        for _ in range(7):
            sentences = sentences[1:] + sentences[:1]
            self.assertIn(len(self.check(bank, sentences)), (4, 5))

    def test_nodes_of_other_sorts(self):
        bank, sentences = self.texts("p", "x", "false", "(if p s t)")
        kept = Kept()
        before = list(bank)
        for order, op in ((sentences, "call"), (sentences[::-1], "if"), ([sentences[1]], "call")):
            with self.assertRaises(BadSort) as caught:
                least_core(bank, order, kept=kept)
            self.assertEqual(caught.exception.op, op)
        self.assertEqual((list(bank), kept.lists()), (before, []))

    def test_turned_orders_by_chance(self):
        cores = 0
        for seed in range(30):
            chance = random.Random(seed)
            bank, sentences = self.texts(*knotted_sentences(chance, 16))
            kept = Kept(limit=chance.choice((1, 40)))
            found = []
            for _ in range(3):
                found.append(self.check(bank, sentences) is None)
                found.append(self.check(bank, sentences, kept=kept) is None)
                turn = chance.randrange(16)
                sentences = sentences[turn:] + sentences[:turn]
                if chance.random() < 0.3:
                    sentences.reverse()
            self.assertEqual(len(set(found)), 1)
            cores += not found[0]
        self.assertGreater(cores, 10)


if __name__ == "__main__":
    unittest.main()
