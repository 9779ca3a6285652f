"""papersat/reasons.py: points 53 and 54."""

import random
import unittest
from itertools import combinations

from papersat.classes import Classes
from papersat.log import Log
from papersat.reader import parse
from papersat.reasons import clash_step, reason_step
from tests.goodness import is_good
from tests.support import call, new_bank
from tests.test_classes import some_points


def edge_labels(classes, points):
    """The labels of all edges but 0."""
    labels = set()
    for a, b in combinations(points, 2):
        labels.update(edge[2] for edge in classes.path(a, b) or [])
    return labels - {0}


class Explained:
    """Joins of the three forms of point 53, and the explanations of what follows from them."""

    def __init__(self, test, bank, points):
        self.test = test
        self.bank = bank
        self.points = points
        self.classes = Classes(bank, points)
        self.log = Log()
        self.log.write("given", (1, 2), None)

    def equal(self, x, y):
        self.classes.unite(x, y, self.bank.make("equal", None, (x, y)))

    def put(self, literal):
        self.classes.unite(abs(literal), 1 if literal > 0 else 2, literal)

    def check_steps(self, before, number):
        """All new steps are good, and the number is that of one of them."""
        steps = self.log.all_steps()
        self.test.assertTrue(before <= number < len(steps))
        for each in range(before, len(steps)):
            self.test.assertIn(steps[each][0], ("chain", "like", "resolve"))
            self.test.assertTrue(is_good(self.bank, steps, each), steps[each])
        return set(steps[number][1])

    def explain(self, a, b):
        before, nodes, groups = len(self.log), list(self.bank), self.classes.groups()
        number = reason_step(self.bank, self.classes, self.log, a, b)
        path = self.classes.path(a, b)
        self.test.assertEqual(number is None, len(path) == 1 and path[0][2] != 0)
        added = list(self.bank)[len(nodes):]
        self.test.assertTrue(all(node[0] == "equal" for node in added))
        self.test.assertEqual(list(self.bank)[:len(nodes)], nodes)
        self.test.assertEqual(self.classes.groups(), groups)
        if number is None:
            self.test.assertEqual((len(self.log), added), (before, []))
            return None
        clause = self.check_steps(before, number)
        node = self.bank.seek("equal", None, (a, b))
        self.test.assertIn(node, clause)
        labels = edge_labels(self.classes, self.points)
        self.test.assertLessEqual({-literal for literal in clause - {node}}, labels)
        return clause

    def clash(self):
        before = len(self.log)
        clause = self.check_steps(before, clash_step(self.bank, self.classes, self.log))
        self.test.assertLessEqual({-literal for literal in clause}, edge_labels(self.classes, self.points))
        return clause


class ReasonTest(unittest.TestCase):
    def setUp(self):
        self.bank = new_bank()
        self.a, self.b, self.c = (call(self.bank, name) for name in "abc")

    def equal(self, x, y):
        return self.bank.make("equal", None, (x, y))

    def points(self, *texts):
        return [parse(self.bank, text) for text in texts]

    def test_one_edge(self):
        held = Explained(self, self.bank, [self.a, self.b])
        held.equal(self.b, self.a)
        self.assertIsNone(held.explain(self.a, self.b))
        self.assertIsNone(held.explain(self.b, self.a))

    def test_two_edges(self):
        held = Explained(self, self.bank, [self.a, self.b, self.c])
        held.equal(self.a, self.b)
        held.equal(self.c, self.b)
        wanted = {self.equal(self.a, self.c), -self.equal(self.a, self.b), -self.equal(self.b, self.c)}
        self.assertEqual(held.explain(self.a, self.c), wanted)
        self.assertEqual(held.explain(self.c, self.a), wanted)
        self.assertEqual([step[0] for step in held.log.all_steps()], ["given", "chain", "chain"])

    def test_calls(self):
        u, v = self.points("(h a c)", "(h b c)")
        held = Explained(self, self.bank, [self.a, self.b, self.c, u, v])
        held.equal(self.a, self.b)
        self.assertEqual(held.explain(u, v), {self.equal(u, v), -self.equal(self.a, self.b)})

    def test_calls_with_the_same_part_twice(self):
        u, v = self.points("(h a a)", "(h b b)")
        held = Explained(self, self.bank, [self.a, self.b, u, v])
        held.equal(self.a, self.b)
        self.assertEqual(held.explain(u, v), {self.equal(u, v), -self.equal(self.a, self.b)})

    def test_calls_whose_parts_are_explained(self):
        u, v, x, y = self.points("(h a b)", "(h c a)", "(at (h a b))", "(at (h c a))")
        held = Explained(self, self.bank, [self.a, self.b, self.c, u, v, x, y])
        held.equal(self.a, self.b)
        held.equal(self.b, self.c)
        ends = {-self.equal(self.a, self.b), -self.equal(self.b, self.c)}
        self.assertEqual(held.explain(u, v), ends | {self.equal(u, v)})
        self.assertEqual(held.explain(y, x), ends | {self.equal(x, y)})

    def test_each_time_new_steps(self):
        u, v = self.points("(f x)", "(f y)")
        x, y = self.points("x", "y")
        held = Explained(self, self.bank, [u, v, x, y])
        held.equal(x, y)
        clauses = [held.explain(u, v) for _ in range(3)]
        self.assertEqual(clauses, clauses[:1] * 3)
        self.assertEqual(len(held.log), 4)

    def test_a_join_that_added_no_edge(self):
        held = Explained(self, self.bank, [self.a, self.b, self.c])
        held.equal(self.a, self.b)
        held.equal(self.b, self.c)
        held.equal(self.a, self.c)
        held.equal(self.b, self.b)
        wanted = {self.equal(self.a, self.c), -self.equal(self.a, self.b), -self.equal(self.b, self.c)}
        self.assertEqual(held.explain(self.a, self.c), wanted)

    def test_long_chain_of_calls(self):
        x, y = self.points("x", "y")
        first, second = [x], [y]
        for _ in range(57):
            first.append(call(self.bank, "f", first[-1]))
            second.append(call(self.bank, "f", second[-1]))
        held = Explained(self, self.bank, first + second)
        held.equal(x, y)
        self.assertEqual(held.explain(first[-1], second[-1]), {self.equal(first[-1], second[-1]), -self.equal(x, y)})
        self.assertLess(len(held.log), 100)

    def test_calls_that_come_round(self):
        nodes = self.points("x")
        for _ in range(40):
            nodes.append(call(self.bank, "f", nodes[-1]))
        held = Explained(self, self.bank, nodes)
        held.equal(nodes[9], nodes[0])
        held.equal(nodes[0], nodes[5])
        wanted = {-self.equal(nodes[0], nodes[9]), -self.equal(nodes[0], nodes[5])}
        for u, v in ((0, 1), (38, 39), (40, 3)):
            found = held.explain(nodes[u], nodes[v])
            self.assertEqual(found, wanted | {self.equal(nodes[u], nodes[v])})

    def test_many_ways_to_the_same_parts(self):
        # Each level has both parts from the level below, so walking all ways would double each time.
        u, v = self.a, self.b
        points = [u, v]
        for _ in range(30):
            u, v = call(self.bank, "h", u, u), call(self.bank, "h", v, v)
            points += [u, v]
        held = Explained(self, self.bank, points)
        held.equal(self.a, self.b)
        held.explain(u, v)
        self.assertLess(len(held.log), 80)

    def test_equal_nodes_are_made(self):
        u, v = self.points("(at (h a a))", "(at (h b a))")
        points = self.points("a", "b", "(h a a)", "(h b a)") + [u, v]
        held = Explained(self, self.bank, points)
        held.equal(self.a, self.b)
        self.assertEqual(self.bank.seek("equal", None, (u, v)), 0)
        held.explain(u, v)
        self.assertGreater(self.bank.seek("equal", None, (u, v)), 0)

    def test_by_chance(self):
        kinds = {}
        for seed in range(150):
            chance = random.Random(seed)
            bank = new_bank()
            points, by_sort = some_points(chance, bank)
            held = Explained(self, bank, points)
            signs = {}
            for _ in range(chance.randrange(1, 25)):
                nodes = chance.choice([*by_sort, by_sort[0], by_sort[4]])
                if 1 in nodes:
                    node = chance.choice(nodes)
                    if node > 2:
                        held.put(signs.setdefault(node, node * chance.choice((1, -1))))
                else:
                    held.equal(chance.choice(nodes), chance.choice(nodes))
            for nodes in by_sort[:4]:
                for a, b in combinations(nodes, 2):
                    if held.classes.same(a, b):
                        held.explain(*chance.choice(((a, b), (b, a))))
            if held.classes.same(1, 2):
                held.clash()
                kinds["clash"] = kinds.get("clash", 0) + 1
            for step in held.log:
                kinds[step[0]] = kinds.get(step[0], 0) + 1
        for kind in ("chain", "like", "resolve"):
            self.assertGreater(kinds[kind], 300)
        self.assertGreater(kinds["clash"], 10)


class ClashTest(unittest.TestCase):
    def setUp(self):
        self.bank = new_bank()
        self.a, self.b, self.c = (call(self.bank, name) for name in "abc")
        self.olds = [call(self.bank, "is_old", node) for node in (self.a, self.b, self.c)]
        self.held = Explained(self, self.bank, [1, 2, self.a, self.b, self.c, *self.olds])

    def equal(self, x, y):
        return self.bank.make("equal", None, (x, y))

    def test_two_calls(self):
        self.held.put(self.olds[0])
        self.held.put(-self.olds[1])
        self.held.equal(self.a, self.b)
        self.assertEqual(self.held.clash(), {-self.olds[0], self.olds[1], -self.equal(self.a, self.b)})

    def test_joined_before(self):
        self.held.equal(self.b, self.a)
        self.held.put(-self.olds[0])
        self.held.put(self.olds[1])
        self.assertEqual(self.held.clash(), {self.olds[0], -self.olds[1], -self.equal(self.a, self.b)})
        self.assertEqual(self.held.clash(), {self.olds[0], -self.olds[1], -self.equal(self.a, self.b)})

    def test_a_call_between(self):
        for first, second in ((1, 2), (2, 1)):
            held = Explained(self, self.bank, [1, 2, self.a, self.b, self.c, *self.olds])
            held.equal(self.a, self.b)
            held.equal(self.b, self.c)
            held.put(self.olds[0] if first == 1 else -self.olds[0])
            held.put(self.olds[2] if second == 1 else -self.olds[2])
            signs = (-1, 1) if first == 1 else (1, -1)
            wanted = {signs[0] * self.olds[0], signs[1] * self.olds[2], -self.equal(self.a, self.b), -self.equal(self.b, self.c)}
            self.assertEqual(held.clash(), wanted)

    def test_calls_of_calls(self):
        u, v = parse(self.bank, "(h a c)"), parse(self.bank, "(h b c)")
        olds = [call(self.bank, "is_old", node) for node in (u, v)]
        held = Explained(self, self.bank, [1, 2, self.a, self.b, self.c, u, v, *olds])
        held.put(olds[0])
        held.put(-olds[1])
        held.equal(self.a, self.b)
        self.assertEqual(held.clash(), {-olds[0], olds[1], -self.equal(self.a, self.b)})
