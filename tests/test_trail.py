"""papersat/trail.py: points 34 and 35."""

import random
import unittest

from papersat.errors import BadLiteral, PaperError
from papersat.trail import Trail


def filled():
    """A trail with the levels (5, -2), (-1, 7, -8), (3), (-4, 6); the nodes 9 and 10 are open."""
    trail = Trail([1, 2, 3, 4, 5, 6, 7, 8, 9, 10])
    for literal, reason in ((5, 0), (-2, 3), (-1, None), (7, 0), (-8, 12), (3, None), (-4, None), (6, 7)):
        if reason is None:
            trail.choose(literal)
        else:
            trail.force(literal, reason)
    return trail


def state(trail, nodes):
    values = [(trail.value(n), trail.level_of(n), trail.reason_of(n), trail.place_of(n)) for n in nodes]
    return (trail.literals(), trail.sizes(), trail.depth(), values)


class TrailTest(unittest.TestCase):
    def test_empty(self):
        trail = Trail([4, 2])
        self.assertEqual(state(trail, (4, 2)), ([], [0], 0, [(None, None, None, None)] * 2))
        self.assertNotIn(4, trail)
        self.assertNotIn(-2, trail)
        self.assertEqual(Trail(()).literals(), [])

    def test_literals_of_both_signs_at_every_level(self):
        trail = filled()
        self.assertEqual(trail.literals(), [5, -2, -1, 7, -8, 3, -4, 6])
        self.assertEqual(trail.sizes(), [2, 3, 1, 2])
        self.assertEqual(trail.depth(), 3)
        wanted = {5: (0, 0, 0), -2: (0, 3, 1), -1: (1, None, 2), 7: (1, 0, 3), -8: (1, 12, 4), 3: (2, None, 5), -4: (3, None, 6), 6: (3, 7, 7)}
        for literal, facts in wanted.items():
            self.assertIs(trail.value(literal), True)
            self.assertIs(trail.value(-literal), False)
            for each in (literal, -literal):
                self.assertEqual((trail.level_of(each), trail.reason_of(each), trail.place_of(each)), facts)
            self.assertIs(literal in trail, True)
            self.assertIs(-literal in trail, False)
        for literal in (9, -9, 10, -10):
            self.assertIsNone(trail.value(literal))
            self.assertEqual((trail.level_of(literal), trail.reason_of(literal), trail.place_of(literal)), (None, None, None))
            self.assertNotIn(literal, trail)

    def test_putting_on_returns_none(self):
        trail = Trail([1, 2])
        self.assertIsNone(trail.choose(-1))
        self.assertIsNone(trail.force(2, 5))
        self.assertIsNone(trail.back(0))

    def test_any_order(self):
        trail = Trail([1, 2, 3, 4])
        trail.choose(2)
        trail.choose(-4)
        trail.force(1, 9)
        trail.choose(3)
        self.assertEqual((trail.sizes(), trail.depth()), ([0, 1, 2, 1], 3))

    def test_back(self):
        nodes = range(1, 11)
        for level in (3, 4, 100):
            trail = filled()
            before = state(trail, nodes)
            trail.back(level)
            self.assertEqual(state(trail, nodes), before)
        for level, sizes in ((2, [2, 3, 1]), (1, [2, 3]), (0, [2])):
            trail = filled()
            kept = filled().literals()[:sum(sizes)]
            trail.back(level)
            self.assertEqual((trail.literals(), trail.sizes(), trail.depth()), (kept, sizes, level))
            for node in nodes:
                self.assertEqual(trail.value(node), True if node in kept else False if -node in kept else None)
                self.assertEqual(trail.place_of(node), filled().place_of(node) if node in map(abs, kept) else None)
                self.assertEqual(trail.reason_of(node), filled().reason_of(node) if node in map(abs, kept) else None)
            trail.back(level)
            self.assertEqual(trail.literals(), kept)

    def test_after_back(self):
        trail = filled()
        trail.back(1)
        trail.choose(4)
        trail.force(-3, 2)
        self.assertEqual(trail.sizes(), [2, 3, 2])
        self.assertEqual((trail.value(4), trail.level_of(3), trail.reason_of(3), trail.place_of(-3)), (True, 2, 2, 6))
        trail.back(0)
        self.assertEqual(trail.literals(), [5, -2])
        trail.force(9, 1)
        self.assertEqual((trail.level_of(9), trail.sizes()), (0, [3]))

    def test_errors(self):
        trail = filled()
        nodes = range(1, 11)
        before = state(trail, nodes)

        def refused(method, *passed):
            with self.assertRaises(PaperError) as caught:
                method(*passed)
            self.assertIs(type(caught.exception), BadLiteral)
            self.assertEqual(caught.exception.literal, passed[0])
            self.assertEqual(state(trail, nodes), before)

        for literal in (5, -5, -2, 2, -1, 1, 8, -8, 6, -6):
            refused(trail.choose, literal)
            refused(trail.force, literal, 1)
        for literal in (11, -11, 0, 10 ** 30, -(10 ** 30)):
            for method in (trail.choose, trail.value, trail.level_of, trail.reason_of, trail.place_of):
                refused(method, literal)
            refused(trail.force, literal, 1)
            self.assertIs(literal in trail, False)

    def test_lists_are_new(self):
        nodes = [1, 2]
        trail = Trail(nodes)
        nodes.append(3)
        with self.assertRaises(BadLiteral):
            trail.value(3)
        trail.choose(1)
        trail.literals().append(2)
        trail.sizes().append(2)
        self.assertEqual((trail.literals(), trail.sizes(), nodes), ([1], [0, 1], [1, 2, 3]))

    def test_by_a_plain_list(self):
        for seed in range(40):
            chance = random.Random(seed)
            nodes = list(range(1, 8))
            trail = Trail(nodes)
            rows = []
            for _ in range(60):
                fresh = [node for node in nodes if node not in [abs(row[0]) for row in rows]]
                depth = max([row[1] for row in rows], default=0)
                if fresh and chance.random() < 0.7:
                    literal = chance.choice(fresh) * chance.choice((1, -1))
                    if chance.random() < 0.4:
                        trail.choose(literal)
                        rows.append((literal, depth + 1, None))
                    else:
                        reason = chance.randrange(5)
                        trail.force(literal, reason)
                        rows.append((literal, depth, reason))
                else:
                    level = chance.randrange(5)
                    trail.back(level)
                    rows = [row for row in rows if row[1] <= level]
                depth = max([row[1] for row in rows], default=0)
                self.assertEqual(trail.literals(), [row[0] for row in rows])
                self.assertEqual(trail.depth(), depth)
                self.assertEqual(trail.sizes(), [len([r for r in rows if r[1] == k]) for k in range(depth + 1)])
                for place, (literal, level, reason) in enumerate(rows):
                    facts = (trail.level_of(-literal), trail.reason_of(literal), trail.place_of(-literal))
                    self.assertEqual(facts, (level, reason, place))
