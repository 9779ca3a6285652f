"""papersat/kept.py: point 73."""

import random
import unittest

from papersat.checker import first_bad
from papersat.kept import Kept
from papersat.log import Log
from papersat.meeting import question
from papersat.reader import parse
from papersat.solver import solve
from papersat.trimming import trim
from tests.sentences import knotted_sentences
from tests.support import new_bank


def given(*literals):
    return ("given", literals, None)


def chain_of(count, last):
    """A list of as many steps that all are needed, with a last clause."""
    steps = [given(99)]
    while len(steps) < count - 1:
        steps.append(("resolve", (99,), (len(steps) - 1, ())))
    return steps + [("resolve", last, (len(steps) - 1, ()))]


class OfferTest(unittest.TestCase):
    def test_at_first(self):
        kept = Kept()
        self.assertEqual(kept.lists(), [])
        self.assertEqual(kept.usable([1, 2, 3]), [])

    def test_lists_are_trimmed(self):
        kept = Kept()
        steps = [given(5), given(1, 2), given(7), ("resolve", (1, 2), (1, ()))]
        copy = list(steps)
        self.assertIs(kept.offer(steps), True)
        self.assertEqual(steps, copy)
        self.assertEqual(kept.lists(), [[given(1, 2), ("resolve", (1, 2), (0, ()))]])

    def test_an_empty_list(self):
        kept = Kept()
        self.assertIs(kept.offer([]), False)
        self.assertEqual(kept.lists(), [])

    def test_the_length_of_the_last_clause(self):
        kept = Kept()
        for length, added in ((0, False), (1, True), (2, True), (7, True), (8, True), (9, False), (30, False)):
            self.assertIs(kept.offer([given(*range(1, length + 1))]), added, length)
        self.assertEqual([len(steps[-1][1]) for steps in kept.lists()], [1, 2, 7, 8])

    def test_the_number_of_steps(self):
        kept = Kept()
        for count, added in ((199, True), (200, True), (201, False), (400, False)):
            steps = chain_of(count, (count,))
            self.assertEqual(len(trim(steps)), count)
            self.assertIs(kept.offer(steps), added, count)
        # Only the trimmed list counts.
        spare = [given(number) for number in range(300)]
        self.assertIs(kept.offer(spare + [given(7)]), True)
        log = Log()
        log.take(spare)
        log.take(chain_of(200, (8,)))
        self.assertIs(kept.offer(log.all_steps()), True)
        log.take(chain_of(201, (9,)))
        self.assertIs(kept.offer(log.all_steps()), False)
        self.assertEqual([len(steps) for steps in kept.lists()], [199, 200, 1, 200])

    def test_a_last_clause_that_is_there(self):
        kept = Kept()
        self.assertIs(kept.offer([given(1, -2)]), True)
        self.assertIs(kept.offer([given(1, -2)]), False)
        self.assertIs(kept.offer([given(5), ("resolve", (1, -2), (0, ()))]), False)
        self.assertIs(kept.offer([given(1, 2)]), True)
        self.assertIs(kept.offer([given(1)]), True)
        # A clause of an earlier step of a list is not its last one.
        self.assertIs(kept.offer([given(5), ("resolve", (6,), (0, ()))]), True)
        self.assertIs(kept.offer([given(5)]), True)
        self.assertEqual([steps[-1][1] for steps in kept.lists()], [(1, -2), (1, 2), (1,), (6,), (5,)])

    def test_the_steps_are_not_looked_at(self):
        kept = Kept()
        for step in (("nonsense", (3,), ((), None)), ("part", (4, -4), 99), ("sum", (2, 1), None), ("resolve", (6,), (0, ()))):
            before = [] if step[0] != "resolve" else [given(1)]
            self.assertIs(kept.offer(before + [step]), True)

    def test_the_limit(self):
        for limit in (1, 2, 3, 40):
            kept = Kept(limit=limit)
            for number in range(1, 60):
                self.assertIs(kept.offer([given(number)]), True)
                last = [steps[-1][1][0] for steps in kept.lists()]
                self.assertEqual(last, list(range(max(1, number - limit + 1), number + 1)))
            # What went may come again; what is there may not.
            self.assertIs(kept.offer([given(1)]), True)
            self.assertIs(kept.offer([given(1)]), False)
            self.assertEqual(kept.lists()[-1], [given(1)])
        kept = Kept()
        for number in range(1, 60):
            kept.offer([given(number)])
        self.assertEqual(len(kept.lists()), 40)

    def test_a_refused_list_lets_none_go(self):
        kept = Kept(limit=1)
        kept.offer([given(1)])
        for steps in ([], [given()], [given(1)], chain_of(201, (3,)), [given(*range(1, 10))]):
            self.assertIs(kept.offer(steps), False)
            self.assertEqual(kept.lists(), [[given(1)]])


class UsableTest(unittest.TestCase):
    def setUp(self):
        self.kept = Kept()
        for literals in ((1, -2), (3,), (2, 3), (-1,), (-4, 5)):
            self.kept.offer([given(9), ("resolve", literals, (0, ()))])

    def clauses(self, nodes):
        return [steps[-1][1] for steps in self.kept.usable(nodes)]

    def test_all_nodes_of_the_last_clause(self):
        for nodes, clauses in (
            ([], []), ((), []), ([1], [(-1,)]), ([1, 2], [(1, -2), (-1,)]), ((2, 1, 3, 3), [(1, -2), (3,), (2, 3), (-1,)]), ([9], []),
            ([4, 5, 6], [(-4, 5)]), ([4], []), ([5, 4, 3, 2, 1], [(1, -2), (3,), (2, 3), (-1,), (-4, 5)]),
        ):
            self.assertEqual(self.clauses(nodes), clauses)

    def test_lists_are_new_ones(self):
        for lists in (self.kept.lists(), self.kept.usable([1, 2, 3, 4, 5])):
            self.assertEqual(len(lists), 5)
            lists[0].clear()
            lists.pop()
            self.assertEqual(len(self.kept.lists()), 5)
            self.assertTrue(all(len(steps) == 2 for steps in self.kept.lists()))

    def test_a_passed_list_is_copied(self):
        kept = Kept()
        steps = [given(1)]
        kept.offer(steps)
        steps.append(given(2))
        self.assertEqual(kept.lists(), [[given(1)]])


class SolvingTest(unittest.TestCase):
    def test_solving_offers_good_steps_and_uses_them(self):
        used = 0
        for seed in range(25):
            chance = random.Random(seed)
            bank = new_bank()
            kept = Kept(limit=chance.choice((1, 3, 40)))
            pool = [parse(bank, text) for text in knotted_sentences(chance, 24)]
            for _ in range(5):
                sentences = chance.sample(pool, 16)
                nodes, _ = question(bank, Log(), sentences)
                used += len(kept.usable(nodes))
                self.assertEqual(solve(bank, sentences, kept=kept).yes, solve(bank, sentences).yes)
            for steps in kept.lists():
                self.assertIsNone(first_bad(bank, steps))
                self.assertEqual(trim(steps), steps)
                self.assertEqual(steps[-1][0], "resolve")
                self.assertTrue(len(steps) <= 200 and 1 <= len(steps[-1][1]) <= 8)
        self.assertGreater(used, 50)

    def test_solving_without_kept_clauses_keeps_none(self):
        bank = new_bank()
        kept = Kept()
        sentences = [parse(bank, text) for text in ("(distinct x y z)", "(<= 0 x)", "(< x 2)", "(<= 0 y)", "(< y 2)", "(<= 0 z)", "(< z 2)")]
        self.assertFalse(solve(bank, sentences).yes)
        self.assertEqual(kept.lists(), [])

    def test_which_clauses_are_taken_over(self):
        # Kept clauses are valid; this one is not, so that it can be seen where it is taken over.
        bank = new_bank()
        p, q = parse(bank, "p"), parse(bank, "q")
        kept = Kept()
        kept.offer([given(q), ("resolve", (-p,), (0, ()))])
        self.assertTrue(solve(bank, [q], kept=kept).yes)
        answer = solve(bank, [q, p], kept=kept)
        self.assertEqual((answer.yes, answer.core, answer.paper), (False, [p], kept.lists()[0]))
        self.assertTrue(solve(bank, [q, p]).yes)


if __name__ == "__main__":
    unittest.main()
