"""papersat/learning.py: points 40 to 42."""

import random
import unittest

from papersat.clauses import clause_of
from papersat.learning import empty_details, final_clause, learn
from papersat.trail import Trail
from papersat.watching import Watching
from tests.goodness import end_of_strikes

FIRST_SOURCE = 70


def some_clauses(chance, nodes):
    clauses = []
    for _ in range(chance.randrange(4, 4 * len(nodes))):
        size = chance.choice((1, 2, 2, 3, 3, 4)) if chance.random() < 0.3 else chance.choice((2, 3))
        chosen = chance.sample(nodes, min(size, len(nodes)))
        clauses.append(clause_of([node * chance.choice((1, -1)) for node in chosen]))
    return clauses


class Run:
    """A trail and a watcher that choose by chance until there is a clash."""

    def __init__(self, seed):
        self.chance = random.Random(seed)
        self.nodes = list(range(1, self.chance.randrange(4, 10)))
        self.trail = Trail(self.nodes)
        self.watching = Watching(self.trail)
        # The sources are not in the order of the numbers.
        for number, clause in enumerate(some_clauses(self.chance, self.nodes)):
            self.watching.put(clause, FIRST_SOURCE + (number * 7 + 3) % 1000)
        self.clash = self.watching.propagate()
        while self.clash is None and len(self.trail.literals()) < len(self.nodes):
            left = [node for node in self.nodes if self.trail.value(node) is None]
            self.trail.choose(self.chance.choice(left) * self.chance.choice((1, -1)))
            self.clash = self.watching.propagate()

    def clauses(self):
        return {self.watching.source(k): self.watching.clause(k) for k in range(self.watching.size())}

    def reason_clause(self, literal):
        return self.watching.clause(self.trail.reason_of(literal))

    def last(self, literals):
        return max(literals, key=self.trail.place_of)

    def replace(self, held, literal, strikes):
        strikes.append((literal, self.watching.source(self.trail.reason_of(literal))))
        held.remove(literal)
        held.update(each for each in self.reason_clause(literal) if each != -literal)


def plain_learn(run, clause, source):
    """Learning by the words of point 40."""
    level_of = run.trail.level_of
    held, strikes = set(clause), []
    deepest = max(level_of(each) for each in held)
    while len([each for each in held if level_of(each) == deepest]) >= 2:
        run.replace(held, run.last([each for each in held if level_of(each) == deepest]), strikes)
    while [each for each in held if level_of(each) == 0]:
        run.replace(held, run.last([each for each in held if level_of(each) == 0]), strikes)
    level = max([level_of(each) for each in held if level_of(each) != deepest], default=0)
    return (tuple(sorted(held, key=abs)), level, (source, tuple(strikes)))


def plain_final(run, literal):
    """The final clause by the words of point 42."""
    held, strikes = set(run.reason_clause(literal)), []
    while True:
        forced = [each for each in held if each != -literal and run.trail.reason_of(each) is not None]
        if not forced:
            break
        run.replace(held, run.last(forced), strikes)
    source = run.watching.source(run.trail.reason_of(literal))
    return (tuple(sorted(held, key=abs)), (source, tuple(strikes)))


class LearnTest(unittest.TestCase):
    def test_example(self):
        trail = Trail([1, 2, 3])
        watching = Watching(trail)
        self.assertEqual([watching.put((-1, 2), 70), watching.put((-2, 3), 71), watching.put((-2, -3), 72)], [0, 1, 2])
        self.assertIsNone(watching.propagate())
        trail.choose(1)
        clash = watching.propagate()
        self.assertIsNotNone(clash)
        learned = learn(trail, watching, watching.clause(clash), watching.source(clash))
        self.assertIs(type(learned), tuple)
        self.assertEqual(learned[:2], ((-2,), 0))
        clauses = {70: (-1, 2), 71: (-2, 3), 72: (-2, -3)}
        self.assertEqual(end_of_strikes(clauses, *learned[2]), {-2})

    def test_by_the_words_of_the_point(self):
        seen = {"level": 0, "ground": 0, "long": 0}
        for seed in range(1500):
            run = Run(seed)
            if run.clash is None or run.trail.depth() == 0:
                continue
            clause, source = run.watching.clause(run.clash), run.watching.source(run.clash)
            found = learn(run.trail, run.watching, clause, source)
            self.assertEqual(found, plain_learn(run, clause, source))
            seen["level"] += found[1] > 0
            seen["long"] += len(found[2][1]) > 2
            seen["ground"] += any(run.trail.level_of(each) == 0 for each, _ in found[2][1])
            self.check_learned(run, clause, found)
        for key in seen:
            self.assertGreater(seen[key], 20, key)

    def check_learned(self, run, clause, found):
        learned, level, (first, strikes) = found
        trail = run.trail
        self.assertEqual(clause_of(learned), learned)
        self.assertEqual(end_of_strikes(run.clauses(), first, strikes), set(learned))
        deepest = max(trail.level_of(each) for each in clause)
        levels = [trail.level_of(each) for each in learned]
        self.assertEqual(levels.count(deepest), 1)
        self.assertNotIn(0, levels)
        self.assertTrue(all(trail.value(each) is False for each in learned))
        for literal, _ in strikes:
            self.assertIsNotNone(trail.reason_of(literal))
            for each in run.reason_clause(literal):
                self.assertLessEqual(trail.place_of(each), trail.place_of(literal))
        before = trail.literals()
        self.assertEqual(max([each for each in levels if each != deepest], default=0), level)
        trail.back(level)
        self.assertEqual(trail.literals(), before[:len(trail.literals())])
        values = [trail.value(each) for each in learned]
        self.assertEqual((values.count(None), values.count(False)), (1, len(learned) - 1))

    def test_from_any_false_clause(self):
        # A clause from outside, as a fault of a listener is, may have its literals below the depth.
        counts = [0, 0]
        for seed in range(600):
            run = Run(5000 + seed)
            literals = run.trail.literals()
            clause = clause_of([-each for each in literals if run.chance.random() < 0.5])
            levels = [run.trail.level_of(each) for each in clause]
            if not clause or max(levels) == 0:
                continue
            counts[0] += 1
            counts[1] += max(levels) < run.trail.depth()
            found = learn(run.trail, run.watching, clause, 9)
            self.assertEqual(found, plain_learn(run, clause, 9))
            self.assertEqual(found[2][0], 9)
            self.assertEqual(end_of_strikes({9: clause, **run.clauses()}, *found[2]), set(found[0]))
        self.assertGreater(min(counts), 50)

    def test_nothing_to_replace(self):
        trail = Trail([1, 2, 3])
        watching = Watching(trail)
        watching.propagate()
        for literal in (1, -2, 3):
            trail.choose(literal)
            watching.propagate()
        self.assertEqual(learn(trail, watching, (-1, 2), 4), ((-1, 2), 1, (4, ())))
        self.assertEqual(learn(trail, watching, (-3,), 5), ((-3,), 0, (5, ())))
        self.assertEqual(learn(trail, watching, (-1, 2, -3), 6), ((-1, 2, -3), 2, (6, ())))

    def test_literals_of_level_zero(self):
        trail = Trail([1, 2, 3, 4])
        watching = Watching(trail)
        for number, clause in enumerate(((1,), (-1, 2), (-1, -3, 4), (-2, -3, -4))):
            watching.put(clause, 10 * number)
        self.assertIsNone(watching.propagate())
        trail.choose(3)
        clash = watching.propagate()
        learned = learn(trail, watching, watching.clause(clash), watching.source(clash))
        self.assertEqual(learned[:2], ((-3,), 0))
        self.assertEqual(learned[2][1][1:], ((-2, 10), (-1, 0)))


class FinalTest(unittest.TestCase):
    def test_by_the_words_of_the_point(self):
        counts = {"all": 0, "strikes": 0, "ground": 0}
        for seed in range(800):
            run = Run(seed)
            trail = run.trail
            for literal in trail.literals():
                if trail.reason_of(literal) is None:
                    continue
                found = final_clause(trail, run.watching, -literal)
                self.assertEqual(found, plain_final(run, -literal))
                clause, (first, strikes) = found
                self.assertEqual(first, run.watching.source(trail.reason_of(literal)))
                self.assertEqual(end_of_strikes(run.clauses(), first, strikes), set(clause))
                self.assertEqual(clause_of(clause), clause)
                self.assertIn(literal, clause)
                for each in clause:
                    if each != literal:
                        self.assertIn(-each, trail)
                        self.assertIsNone(trail.reason_of(each))
                counts["all"] += 1
                counts["strikes"] += len(strikes) > 1
                counts["ground"] += trail.level_of(literal) == 0
        for key in counts:
            self.assertGreater(counts[key], 100, key)

    def test_plain_ones(self):
        trail = Trail([1, 2, 3])
        watching = Watching(trail)
        for clause, source in (((-1, 2), 30), ((-2, -3), 20)):
            watching.put(clause, source)
        watching.propagate()
        trail.choose(1)
        self.assertIsNone(watching.propagate())
        self.assertEqual(final_clause(trail, watching, -2), ((-1, 2), (30, ())))
        self.assertEqual(final_clause(trail, watching, 3), ((-1, -3), (20, ((-2, 30),))))

    def test_a_literal_of_level_zero(self):
        trail = Trail([1])
        watching = Watching(trail)
        watching.put((-1,), 6)
        watching.propagate()
        self.assertEqual(final_clause(trail, watching, 1), ((-1,), (6, ())))


class EmptyTest(unittest.TestCase):
    def test_details(self):
        count = 0
        for seed in range(3000):
            run = Run(seed)
            if run.clash is None or run.trail.depth() > 0:
                continue
            clause, source = run.watching.clause(run.clash), run.watching.source(run.clash)
            first, strikes = empty_details(run.trail, run.watching, clause, source)
            self.assertEqual(first, source)
            self.assertEqual(end_of_strikes(run.clauses(), first, strikes), set())
            count += 1
        self.assertGreater(count, 20)
