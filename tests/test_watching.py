"""papersat/watching.py: points 36 to 39."""

import random
import unittest

from papersat.clauses import clause_of
from papersat.errors import BadLiteral
from papersat.trail import Trail
from papersat.watching import Watching

CALLERS = 1000


def false_ones(trail, clause):
    return [literal for literal in clause if trail.value(literal) is False]


def open_ones(trail, clause):
    return [literal for literal in clause if trail.value(literal) is None]


def may_be_put(trail, clause):
    """Whether point 38 lets callers put the clause."""
    false = false_ones(trail, clause)
    if trail.depth() == 0 or len(clause) - len(false) >= 2:
        return True
    deep = [literal for literal in false if trail.level_of(literal) == trail.depth()]
    return len(open_ones(trail, clause)) == 1 and len(false) == len(clause) - 1 and len(deep) > 0


def closure(clauses, literals):
    """All that follows from literals by clauses with one literal left."""
    known = set(literals)
    grown = True
    while grown:
        grown = False
        for clause in clauses:
            left = [literal for literal in clause if -literal not in known]
            if len(left) == 1 and left[0] not in known:
                known.add(left[0])
                grown = True
    return known


class Caller:
    """Calls a watcher as point 38 lets callers do, and holds it against points 36 to 39."""

    def __init__(self, test, seed):
        self.test = test
        self.chance = random.Random(seed)
        self.nodes = list(range(1, self.chance.randrange(3, 12)))
        self.trail = Trail(self.nodes)
        self.watching = Watching(self.trail)
        self.clauses = []
        self.forgotten = set()
        # Whether nothing was put since propagation returned None, and the depth of the last clash.
        self.is_settled = False
        self.clash_depth = None
        self.counts = {"none": 0, "forced": 0, "clash at depth 0": 0, "clash above": 0}

    def literal(self):
        return self.chance.choice(self.nodes) * self.chance.choice((1, -1))

    def standing(self):
        return [k for k in range(len(self.clauses)) if k not in self.forgotten]

    def go(self, count):
        actions = [self.put] * 4 + [self.descend] * 6 + [self.propagate] * 2 + [self.back] * 3 + [self.choose, self.force, self.forget]
        for _ in range(self.chance.randrange(4 * len(self.nodes))):
            self.put()
        for _ in range(count):
            self.chance.choice(actions)()

    def descend(self):
        self.propagate()
        while self.is_settled and len(self.trail.literals()) < len(self.nodes) and self.chance.random() < 0.9:
            self.choose()
            if self.chance.random() < 0.95:
                self.propagate()

    def put(self):
        size = self.chance.choice((0, 1, 1, 1)) if self.chance.random() < 0.04 else self.chance.choice((2, 2, 3, 3, 4))
        clause = clause_of([self.literal() for _ in range(size)])
        if clause is None or not may_be_put(self.trail, clause):
            return
        self.test.assertEqual(self.watching.put(clause, 7 * len(self.clauses)), len(self.clauses))
        self.clauses.append(clause)
        self.is_settled = False
        self.check_watched_shapes()

    def choose(self):
        left = [node for node in self.nodes if self.trail.value(node) is None]
        if self.is_settled and left:
            self.trail.choose(self.chance.choice(left) * self.chance.choice((1, -1)))
            self.is_settled = False

    def force(self):
        literal = self.literal()
        if self.trail.depth() == 0 and self.trail.value(literal) is None:
            self.trail.force(literal, CALLERS)
            self.is_settled = False

    def back(self):
        self.trail.back(self.chance.randrange(self.trail.depth() + 1))
        if self.is_settled:
            self.check_watched()

    def forget(self):
        reasons = [self.trail.reason_of(literal) for literal in self.trail.literals()]
        free = [k for k in self.standing() if k not in reasons]
        if free:
            number = self.chance.choice(free)
            self.test.assertIsNone(self.watching.forget(number))
            self.forgotten.add(number)

    def propagate(self):
        if self.clash_depth is not None and self.clash_depth > 0 and self.trail.depth() >= self.clash_depth:
            self.trail.back(self.clash_depth - 1)
        before = self.trail.literals()
        depth = self.trail.depth()
        number = self.watching.propagate()
        after = self.trail.literals()
        self.test.assertEqual(after[:len(before)], before)
        self.test.assertEqual(self.trail.depth(), depth)
        for literal in after[len(before):]:
            self.check_forced(literal)
        self.clash_depth = None if number is None else depth
        self.is_settled = number is None
        if number is None:
            self.counts["none"] += 1
            self.check_settled(before)
        else:
            self.counts["clash above" if depth else "clash at depth 0"] += 1
            self.test.assertIn(number, self.standing())
            self.test.assertEqual(len(false_ones(self.trail, self.clauses[number])), len(self.clauses[number]))
            if depth == 0 and self.chance.random() < 0.7:
                self.watching.forget(number)
                self.forgotten.add(number)

    def check_forced(self, literal):
        """The literal was forced while the clause of its reason was due."""
        self.counts["forced"] += 1
        reason = self.trail.reason_of(literal)
        self.test.assertIn(reason, self.standing())
        self.test.assertIn(literal, self.clauses[reason])
        for each in self.clauses[reason]:
            if each != literal:
                self.test.assertIs(self.trail.value(each), False)
                self.test.assertLess(self.trail.place_of(each), self.trail.place_of(literal))

    def check_settled(self, before):
        clauses = [self.clauses[k] for k in self.standing()]
        for clause in clauses:
            if len(false_ones(self.trail, clause)) >= len(clause) - 1:
                self.test.assertTrue(any(each in self.trail for each in clause))
        self.test.assertEqual(set(self.trail.literals()), closure(clauses, before))
        self.check_watched()

    def check_watched_shapes(self):
        for number in self.standing():
            watched = self.watching.watched(number)
            self.test.assertIs(type(watched), tuple)
            self.test.assertEqual(len(set(watched)), min(2, len(self.clauses[number])))
            self.test.assertEqual(len(watched), len(set(watched)))
            self.test.assertLessEqual(set(watched), set(self.clauses[number]))

    def check_watched(self):
        """The promise of point 39."""
        self.check_watched_shapes()
        for number in self.standing():
            watched = self.watching.watched(number)
            if len(watched) == 2:
                for one, other in (watched, watched[::-1]):
                    if self.trail.value(one) is False:
                        self.test.assertIs(self.trail.value(other), True)
                        self.test.assertLessEqual(self.trail.level_of(other), self.trail.level_of(one))

    def check_kept(self):
        self.test.assertEqual(self.watching.size(), len(self.clauses))
        for number, clause in enumerate(self.clauses):
            self.test.assertEqual((self.watching.clause(number), self.watching.source(number)), (clause, 7 * number))


class WatchingTest(unittest.TestCase):
    def test_put(self):
        trail = Trail([1, 2, 3, 4])
        watching = Watching(trail)
        self.assertEqual(watching.size(), 0)
        for number, clause in enumerate(((), (-3,), (1, -2), (1, 2, 3), (-1, 2, -3, 4))):
            self.assertEqual(watching.put(clause, 50 + number), number)
            self.assertEqual(watching.clause(number), clause)
            self.assertEqual(watching.source(number), 50 + number)
            self.assertEqual(len(watching.watched(number)), min(2, len(clause)))
            self.assertLessEqual(set(watching.watched(number)), set(clause))
            self.assertEqual(watching.size(), number + 1)
        self.assertEqual(trail.literals(), [])

    def test_literals_over_other_nodes(self):
        trail = Trail([1, 2])
        watching = Watching(trail)
        watching.put((1, 2), 0)
        for clause, literal in (((3,), 3), ((1, -3, 4), -3), ((1, 2, -9), -9), ((-5, -7), -5)):
            with self.assertRaises(BadLiteral) as caught:
                watching.put(clause, 1)
            self.assertEqual(caught.exception.literal, literal)
            self.assertEqual(watching.size(), 1)
        self.assertIsNone(watching.propagate())
        self.assertEqual(watching.put((-1,), 5), 1)

    def test_nothing_to_do(self):
        trail = Trail([1])
        watching = Watching(trail)
        self.assertIsNone(watching.propagate())
        trail.choose(1)
        self.assertIsNone(watching.propagate())
        self.assertEqual(trail.literals(), [1])

    def test_empty_clause(self):
        trail = Trail([1])
        watching = Watching(trail)
        watching.put((1,), 0)
        number = watching.put((), 0)
        self.assertEqual(watching.propagate(), number)
        self.assertEqual(watching.propagate(), number)
        watching.forget(number)
        self.assertIsNone(watching.propagate())
        self.assertEqual(trail.literals(), [1])

    def test_clauses_of_one_literal(self):
        trail = Trail([1, 2])
        watching = Watching(trail)
        watching.put((-2,), 9)
        watching.put((1,), 8)
        self.assertIsNone(watching.propagate())
        self.assertEqual(sorted(trail.literals()), [-2, 1])
        self.assertEqual((trail.level_of(1), trail.reason_of(1), trail.reason_of(2)), (0, 1, 0))
        clash = watching.put((2,), 7)
        self.assertEqual(watching.propagate(), clash)
        self.assertEqual(watching.propagate(), clash)

    def test_a_chain(self):
        trail = Trail([1, 2, 3, 4])
        watching = Watching(trail)
        for clause in ((-1, 2), (-2, 3), (-1, -3, 4)):
            watching.put(clause, 0)
        self.assertIsNone(watching.propagate())
        self.assertEqual(trail.literals(), [])
        trail.choose(1)
        self.assertIsNone(watching.propagate())
        self.assertEqual(trail.literals(), [1, 2, 3, 4])
        self.assertEqual([trail.reason_of(n) for n in (1, 2, 3, 4)], [None, 0, 1, 2])
        trail.back(0)
        trail.choose(-4)
        self.assertIsNone(watching.propagate())
        self.assertEqual(trail.literals(), [-4])
        trail.choose(-3)
        self.assertIsNone(watching.propagate())
        self.assertEqual(trail.literals()[:2], [-4, -3])
        self.assertEqual(set(trail.literals()), {-4, -3, -2, -1})
        self.assertEqual(trail.sizes(), [0, 1, 3])

    def test_the_same_literals_again(self):
        trail = Trail([1, 2])
        watching = Watching(trail)
        watching.put((-1, 2), 0)
        watching.propagate()
        for _ in range(3):
            trail.choose(1)
            self.assertIsNone(watching.propagate())
            self.assertEqual(trail.literals(), [1, 2])
            trail.back(0)
        trail.choose(-2)
        self.assertIsNone(watching.propagate())
        self.assertEqual(trail.literals(), [-2, -1])

    def test_false_or_due_when_put(self):
        trail = Trail([1, 2, 3, 4])
        watching = Watching(trail)
        for literal in (1, 2):
            trail.force(literal, 5)
        self.assertIsNone(watching.propagate())
        due = watching.put((-1, -2, 3), 0)
        true = watching.put((1, -2), 0)
        self.assertIsNone(watching.propagate())
        self.assertEqual((trail.literals(), trail.reason_of(3)), ([1, 2, 3], due))
        false = watching.put((-1, -3), 0)
        self.assertEqual(watching.propagate(), false)
        self.assertEqual(watching.propagate(), false)
        watching.forget(false)
        watching.forget(true)
        self.assertIsNone(watching.propagate())
        self.assertEqual(watching.clause(false), (-1, -3))

    def test_due_above_depth_zero(self):
        trail = Trail([1, 2, 3, 4])
        watching = Watching(trail)
        watching.propagate()
        for literal in (1, 2, 3):
            trail.choose(literal)
            self.assertIsNone(watching.propagate())
        number = watching.put((-1, -3, 4), 0)
        self.assertEqual(set(watching.watched(number)), {-3, 4})
        trail.back(2)
        self.assertIsNone(watching.propagate())
        self.assertEqual(trail.literals(), [1, 2])
        trail.choose(-4)
        self.assertIsNone(watching.propagate())
        self.assertEqual(trail.literals(), [1, 2, -4, -3])

    def test_clash_above_depth_zero(self):
        trail = Trail([1, 2, 3])
        watching = Watching(trail)
        for clause in ((-1, 2), (-1, 3), (-2, -3)):
            watching.put(clause, 0)
        self.assertIsNone(watching.propagate())
        trail.choose(1)
        clash = watching.propagate()
        self.assertIsNotNone(clash)
        self.assertTrue(all(trail.value(each) is False for each in watching.clause(clash)))
        trail.back(0)
        self.assertIsNone(watching.propagate())
        trail.choose(2)
        self.assertIsNone(watching.propagate())
        self.assertEqual(set(trail.literals()), {2, -3, -1})

    def test_forgotten_clauses_do_nothing(self):
        trail = Trail([1, 2, 3])
        watching = Watching(trail)
        numbers = [watching.put(clause, 4) for clause in ((-1, 2), (-1, 2, 3), (-1, -2))]
        watching.propagate()
        for number in numbers[:2]:
            self.assertIsNone(watching.forget(number))
        trail.choose(1)
        self.assertIsNone(watching.propagate())
        self.assertEqual(trail.literals(), [1, -2])
        self.assertEqual((watching.size(), watching.clause(0), watching.source(0)), (3, (-1, 2), 4))
        self.assertEqual(watching.put((1, 3), 0), 3)

    def test_clash_that_is_forgotten_while_others_wait(self):
        trail = Trail([1, 2, 3])
        watching = Watching(trail)
        for clause in ((-1, 2), (-1, -2), (-1, 3)):
            watching.put(clause, 0)
        self.assertIsNone(watching.propagate())
        trail.force(1, CALLERS)
        clash = watching.propagate()
        self.assertIn(clash, (0, 1))
        watching.forget(clash)
        self.assertIsNone(watching.propagate())
        self.assertEqual(len(trail.literals()), 3)
        self.assertIn(3, trail)

    def test_a_trail_with_literals(self):
        trail = Trail([1, 2, 3, 4])
        trail.force(-4, 0)
        trail.choose(1)
        trail.choose(2)
        watching = Watching(trail)
        watching.put((-2, 3), 0)
        watching.put((-1, 3, 4), 0)
        self.assertIsNone(watching.propagate())
        self.assertEqual(trail.literals(), [-4, 1, 2, 3])

    def test_as_callers_may(self):
        counts = {}
        for seed in range(400):
            caller = Caller(self, seed)
            caller.go(60)
            caller.check_kept()
            for key, count in caller.counts.items():
                counts[key] = counts.get(key, 0) + count
        for key in counts:
            self.assertGreater(counts[key], 300, key)
