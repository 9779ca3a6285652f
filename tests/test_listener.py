"""papersat/listener.py: point 43."""

import random
import unittest

from papersat.listener import Forbidding, Listener
from papersat.log import Log


def log_of(clauses):
    log = Log()
    for clause in clauses:
        log.write("given", clause, None)
    return log


class ListenerTest(unittest.TestCase):
    def test_never_a_fault(self):
        listener = Listener()
        self.assertIsNone(listener.fault())
        self.assertEqual(listener.told_count(), 0)
        for count, literal in enumerate((3, -1, 7), 1):
            self.assertIsNone(listener.told(literal))
            self.assertIsNone(listener.fault())
            self.assertEqual(listener.told_count(), count)

    def test_back(self):
        listener = Listener()
        for literal in (3, -1, 7):
            listener.told(literal)
        for count, left in ((5, 3), (3, 3), (2, 2), (2, 2), (1, 1), (0, 0), (0, 0), (4, 0)):
            self.assertIsNone(listener.back(count))
            self.assertEqual(listener.told_count(), left)
        listener.told(-3)
        self.assertEqual(listener.told_count(), 1)


class ForbiddingTest(unittest.TestCase):
    def test_is_a_listener(self):
        self.assertIsInstance(Forbidding(Log(), []), Listener)
        for method in ("told", "fault", "back", "told_count"):
            self.assertIn(method, vars(Listener))
            self.assertIn(method, vars(Forbidding))

    def test_empty_list(self):
        listener = Forbidding(log_of([()]), [])
        self.assertIsNone(listener.fault())
        listener.told(1)
        self.assertIsNone(listener.fault())
        self.assertEqual(listener.told_count(), 1)

    def test_empty_clause(self):
        listener = Forbidding(log_of([(1,), ()]), (0, 1))
        self.assertEqual(listener.fault(), 1)
        listener.told(-1)
        self.assertEqual(listener.fault(), 0)
        listener.back(0)
        self.assertEqual(listener.fault(), 1)

    def test_first_of_the_list(self):
        log = log_of([(1, 2), (-3,), (1, -3), (1,)])
        listener = Forbidding(log, [2, 0, 1])
        self.assertIsNone(listener.told(3))
        self.assertEqual(listener.fault(), 1)
        listener.told(-1)
        self.assertEqual(listener.fault(), 2)
        listener.told(-2)
        self.assertEqual(listener.fault(), 2)
        listener.back(2)
        self.assertEqual(listener.fault(), 2)
        listener.back(1)
        self.assertEqual(listener.fault(), 1)
        listener.back(0)
        self.assertIsNone(listener.fault())
        for literal in (-1, -2):
            listener.told(literal)
        self.assertEqual(listener.fault(), 0)

    def test_true_literals_are_no_fault(self):
        listener = Forbidding(log_of([(1, 2), (-1,)]), [0])
        for literal in (1, 2):
            listener.told(literal)
        self.assertIsNone(listener.fault())

    def test_lists_are_kept_as_copies(self):
        numbers = [0]
        log = log_of([(1,), (2,)])
        listener = Forbidding(log, numbers)
        numbers[0] = 1
        listener.told(-1)
        self.assertEqual(listener.fault(), 0)
        before = log.all_steps()
        listener.back(0)
        self.assertEqual((numbers, log.all_steps()), ([1], before))

    def test_as_if_told_only_the_first_ones(self):
        for seed in range(60):
            chance = random.Random(seed)
            clauses = []
            for _ in range(6):
                nodes = sorted(chance.sample(range(1, 6), chance.randrange(1, 4)))
                clauses.append(tuple(node * chance.choice((1, -1)) for node in nodes))
            numbers = [chance.randrange(6) for _ in range(4)]
            listener = Forbidding(log_of(clauses), numbers)
            literals = []
            for _ in range(40):
                fresh = [node for node in range(1, 6) if node not in map(abs, literals)]
                if fresh and chance.random() < 0.6:
                    literals.append(chance.choice(fresh) * chance.choice((1, -1)))
                    listener.told(literals[-1])
                else:
                    count = chance.randrange(7)
                    listener.back(count)
                    literals = literals[:count]
                false = [n for n in numbers if all(-each in literals for each in clauses[n])]
                self.assertEqual(listener.fault(), false[0] if false else None)
                self.assertEqual(listener.told_count(), len(literals))
