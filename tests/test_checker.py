"""papersat/checker.py: point 67."""

import unittest

from papersat.checker import check, first_bad
from papersat.reader import parse
from tests.answers import refused_sentences
from tests.goodness import is_good
from tests.support import new_bank


class FirstBadTest(unittest.TestCase):
    def setUp(self):
        self.bank = new_bank()
        self.p, self.q, self.both = (parse(self.bank, text) for text in ("p", "q", "(and p (not p))"))
        self.no = parse(self.bank, "(not p)")
        self.steps = [
            ("part", tuple(sorted((self.p, -self.both), key=abs)), self.both),
            ("part", tuple(sorted((-self.p, -self.no), key=abs)), self.no),
            ("part", tuple(sorted((self.no, -self.both), key=abs)), self.both),
            ("resolve", (-self.both,), (0, ((self.p, 1), (-self.no, 2)))),
        ]

    def test_good_ones(self):
        self.assertIsNone(first_bad(self.bank, self.steps))
        self.assertIsNone(first_bad(self.bank, []))

    def test_the_first_one_counts(self):
        wrong = ("part", (self.q,), self.both)
        for number in range(4):
            steps = self.steps[:number] + [wrong] + self.steps[number + 1:]
            self.assertEqual(first_bad(self.bank, steps), number)
            self.assertFalse(check(self.bank, [self.both, self.q], steps))
        self.assertEqual(first_bad(self.bank, [wrong, wrong]), 0)
        self.assertEqual(first_bad(self.bank, self.steps + [wrong, ("given", (), None)]), 4)

    def test_given_steps_are_not_good(self):
        self.assertEqual(first_bad(self.bank, [("given", (self.p,), None)]), 0)

    def test_details_of_any_shape(self):
        for details in (None, (), 0, -5, ((((),),),), (None, None), (1, (2, (3, 4)))):
            for kind in ("part", "chain", "like", "sum", "resolve", "given", ""):
                if (kind, details) != ("part", 0):
                    self.assertEqual(first_bad(self.bank, [("part", (1,), 1), (kind, (self.p,), details)]), 1)

    def test_no_nodes_are_made(self):
        before = list(self.bank)
        first_bad(self.bank, self.steps)
        check(self.bank, [self.both], self.steps)
        self.assertEqual(list(self.bank), before)

    def test_papers_and_sentences(self):
        for sentences, answer in (
            ([self.both], True), ((self.both,), True), ([self.p, self.both, self.q], True), ([self.both, self.both], True),
            ([], False), ([self.p], False), ((), False), ([self.no, self.p, self.q], False),
        ):
            self.assertIs(check(self.bank, sentences, self.steps), answer)

    def test_an_empty_list(self):
        for sentences in ([], [self.p], [2]):
            self.assertIs(check(self.bank, sentences, []), False)

    def test_a_literal_of_another_sentence(self):
        steps = self.steps[:1]
        self.assertIsNone(first_bad(self.bank, steps))
        for sentences in ([self.both], [self.p], [self.p, self.both]):
            self.assertIs(check(self.bank, sentences, steps), False)
        # Both literals are negations here, but only of one sentence each.
        steps = self.steps[1:2]
        self.assertIs(check(self.bank, [self.p], steps), False)
        self.assertIs(check(self.bank, [self.no], steps), False)
        self.assertIs(check(self.bank, [self.no, self.p], steps), True)

    def test_a_literal_that_is_no_negation(self):
        self.assertIs(check(self.bank, [1], [("part", (1,), 1)]), False)
        self.assertIs(check(self.bank, [2], [("part", (-2,), 2)]), True)

    def test_only_the_last_clause_counts(self):
        steps = self.steps + [("part", (1,), 1)]
        self.assertIsNone(first_bad(self.bank, steps))
        self.assertIs(check(self.bank, [self.both], steps), False)

    def test_a_bad_step_that_is_not_needed(self):
        steps = [("given", (self.p,), None)] + [("part", (-2,), 2)]
        self.assertIs(check(self.bank, [2], steps), False)


class ChanceTest(unittest.TestCase):
    def test_against_a_plain_version(self):
        for chance, bank, answer in refused_sentences(self, 60, 20):
            sentences, steps = answer.sentences, answer.paper
            self.assertTrue(check(bank, sentences, steps))
            self.assertTrue(check(bank, answer.core, steps))
            for sentence in answer.core:
                self.assertFalse(check(bank, [each for each in sentences if each != sentence], steps))
            for _ in range(5):
                number = chance.randrange(len(steps))
                shorter = steps[:number] + steps[number + 1:]
                bad = [k for k in range(len(shorter)) if not is_good(bank, shorter, k)]
                self.assertEqual(first_bad(bank, shorter), bad[0] if bad else None)


if __name__ == "__main__":
    unittest.main()
