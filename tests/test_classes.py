"""papersat/classes.py: points 49 to 52."""

import random
import unittest
from itertools import combinations

from papersat.classes import Classes
from papersat.errors import BadNode, PaperError
from papersat.reader import parse
from tests.layers import least_groups
from tests.support import call, new_bank


def some_points(chance, bank):
    """Points with calls of several functions, and with each call its parts."""
    things = [call(bank, name) for name in "abc"]
    numbers = [call(bank, "x"), call(bank, "y"), bank.make("whole", 3, ()), bank.make("shift", 1, [call(bank, "x")])]
    ratios = [call(bank, "s"), bank.make("ratio", (1, 2), ())]
    places = [call(bank, "home")]
    truths = []
    for _ in range(chance.randrange(12)):
        things.append(call(bank, "h", chance.choice(things), chance.choice(things)))
        numbers.append(call(bank, "f", chance.choice(numbers)))
        ratios.append(call(bank, "g", chance.choice(ratios), chance.choice(numbers)))
        places.append(call(bank, "at", chance.choice(things)))
        truths.append(call(bank, "is_old", chance.choice(things)))
    by_sort = [sorted(set(nodes)) for nodes in (things, numbers, ratios, places, truths + [1, 2])]
    points = [node for nodes in by_sort for node in nodes]
    chance.shuffle(points)
    return points, by_sort


class Held:
    """A classes object beside the list of the joins that stand."""

    def __init__(self, test, seed):
        self.test = test
        self.chance = random.Random(seed)
        self.bank = new_bank()
        self.points, self.by_sort = some_points(self.chance, self.bank)
        self.classes = Classes(self.bank, self.points)
        self.stands = []

    def join(self):
        nodes = self.chance.choice(self.by_sort)
        join = (self.chance.choice(nodes), self.chance.choice(nodes), self.chance.choice((1, -1)) * self.chance.randrange(1, 900))
        self.test.assertIsNone(self.classes.unite(*join))
        self.stands.append(join)

    def back(self):
        count = self.chance.randrange(len(self.stands) + 3)
        self.test.assertIsNone(self.classes.back(count))
        self.stands = self.stands[:count]

    def check(self):
        groups = least_groups(self.bank, self.points, self.stands)
        self.test.assertEqual(self.classes.groups(), groups)
        self.test.assertEqual(self.classes.joins(), len(self.stands))
        of_point = {point: number for number, group in enumerate(groups) for point in group}
        edges = set()
        for a, b in combinations(self.points, 2):
            same = of_point[a] == of_point[b]
            self.test.assertIs(self.classes.same(a, b), same)
            path = self.classes.path(a, b)
            if same:
                self.check_path(a, b, path, edges)
            else:
                self.test.assertIsNone(path)
        # A forest has one edge less than points in each class.
        self.test.assertEqual(len({frozenset(edge[:2]) for edge in edges}), len(self.points) - len(groups))

    def check_path(self, a, b, path, edges):
        self.test.assertIs(type(path), list)
        self.test.assertEqual([a] + [edge[1] for edge in path], [edge[0] for edge in path] + [b])
        self.test.assertEqual(len({a, *[edge[1] for edge in path]}), len(path) + 1)
        self.test.assertEqual(self.classes.path(b, a), [(y, x, label) for x, y, label in path[::-1]])
        for x, y, label in path:
            edges.add((min(x, y), max(x, y), label))
            if label == 0:
                self.check_calls(x, y)
            else:
                self.test.assertTrue((x, y, label) in self.stands or (y, x, label) in self.stands)

    def check_calls(self, x, y):
        (op, name, parts), (other_op, other_name, other_parts) = self.bank.node(x), self.bank.node(y)
        self.test.assertEqual((op, name), (other_op, other_name))
        self.test.assertEqual(op, "call")
        self.test.assertTrue(all(self.classes.same(u, v) for u, v in zip(parts, other_parts)))


class ClassesTest(unittest.TestCase):
    def setUp(self):
        self.bank = new_bank()
        self.a, self.b, self.c = (call(self.bank, name) for name in "abc")

    def test_no_joins(self):
        self.assertEqual(Classes(self.bank, []).groups(), [])
        classes = Classes(self.bank, (self.c, self.a, 1, self.c))
        self.assertEqual(classes.groups(), [[1], [self.a], [self.c]])
        self.assertEqual(classes.joins(), 0)
        self.assertIs(classes.same(self.a, self.c), False)
        self.assertIs(classes.same(self.a, self.a), True)
        self.assertIsNone(classes.path(self.a, 1))
        self.assertEqual(classes.path(self.a, self.a), [])

    def test_a_path(self):
        classes = Classes(self.bank, [self.a, self.b, self.c])
        classes.unite(self.b, self.a, 7)
        classes.unite(self.b, self.c, -8)
        self.assertEqual(classes.path(self.a, self.c), [(self.a, self.b, 7), (self.b, self.c, -8)])
        self.assertEqual(classes.path(self.c, self.b), [(self.c, self.b, -8)])
        self.assertEqual(classes.groups(), [[self.a, self.b, self.c]])

    def test_joins_that_change_nothing(self):
        classes = Classes(self.bank, [self.a, self.b, self.c])
        for count, (x, y) in enumerate(((self.a, self.a), (self.a, self.b), (self.b, self.a), (self.b, self.b)), 1):
            classes.unite(x, y, 10 + count)
            self.assertEqual(classes.joins(), count)
        self.assertEqual(classes.path(self.a, self.b), [(self.a, self.b, 12)])
        classes.back(3)
        self.assertEqual((classes.joins(), classes.path(self.b, self.a)), (3, [(self.b, self.a, 12)]))
        classes.back(1)
        self.assertEqual((classes.joins(), classes.same(self.a, self.b)), (1, False))
        classes.unite(self.b, self.a, 13)
        self.assertEqual(classes.path(self.a, self.b), [(self.a, self.b, 13)])

    def test_calls_follow(self):
        first = parse(self.bank, "(h a b)")
        second = parse(self.bank, "(h b a)")
        old, other_old = parse(self.bank, "(is_old (h a b))"), parse(self.bank, "(is_old (h b a))")
        points = [self.a, self.b, first, second, old, other_old, 1, 2]
        classes = Classes(self.bank, points)
        classes.unite(self.a, self.b, 5)
        self.assertEqual(classes.groups(), [[1], [2], [self.a, self.b], [first, second], [old, other_old]])
        self.assertEqual(classes.path(first, second), [(first, second, 0)])
        self.assertEqual(classes.path(other_old, old), [(other_old, old, 0)])
        classes.unite(old, 1, old)
        self.assertEqual(classes.path(1, other_old), [(1, old, old), (old, other_old, 0)])
        self.assertEqual(classes.joins(), 2)
        classes.back(0)
        self.assertEqual(classes.groups(), [[point] for point in sorted(points)])

    def test_equal_points_that_are_no_calls_do_not_follow(self):
        one, other = parse(self.bank, "(+ x 1)"), parse(self.bank, "(+ y 1)")
        x, y = call(self.bank, "x"), call(self.bank, "y")
        f, g = parse(self.bank, "(f x)"), parse(self.bank, "(g s x)")
        classes = Classes(self.bank, [one, other, x, y, f, g, call(self.bank, "s")])
        classes.unite(x, y, 9)
        self.assertIs(classes.same(one, other), False)
        self.assertIs(classes.same(f, g), False)

    def test_functions_are_told_apart(self):
        signature = self.bank.signature
        signature.declare_function("k", ["thing"], "thing")
        signature.declare_function("m", ["thing"], "thing")
        nodes = [parse(self.bank, text) for text in ("(k a)", "(m b)", "(k b)")]
        classes = Classes(self.bank, [self.a, self.b, *nodes])
        classes.unite(self.a, self.b, 3)
        self.assertEqual([classes.same(nodes[0], nodes[1]), classes.same(nodes[0], nodes[2])], [False, True])

    def test_back_keeps_earlier_joins(self):
        classes = Classes(self.bank, [self.a, self.b, self.c])
        classes.unite(self.a, self.b, 4)
        classes.unite(self.b, self.c, 5)
        for count in (2, 3, 50):
            classes.back(count)
            self.assertEqual((classes.joins(), classes.same(self.a, self.c)), (2, True))
        classes.back(1)
        self.assertEqual(classes.groups(), [[self.a, self.b], [self.c]])

    def test_errors(self):
        classes = Classes(self.bank, [self.a, self.b])
        classes.unite(self.a, self.b, 3)
        for passed, number in (((self.c, self.a), self.c), ((self.a, self.c), self.c), ((0, -5), 0), ((self.b, 99), 99), ((-1, self.c), -1)):
            for method in (classes.same, classes.path, lambda x, y: classes.unite(x, y, 6)):
                with self.assertRaises(PaperError) as caught:
                    method(*passed)
                self.assertIs(type(caught.exception), BadNode)
                self.assertEqual(caught.exception.number, number)
        self.assertEqual((classes.joins(), classes.groups()), (1, [[self.a, self.b]]))

    def test_lists_are_new(self):
        points = [self.a, self.b]
        classes = Classes(self.bank, points)
        points.append(self.c)
        classes.unite(self.a, self.b, 3)
        classes.groups()[0].append(self.c)
        classes.groups().append([])
        classes.path(self.a, self.b).append(())
        self.assertEqual(classes.groups(), [[self.a, self.b]])
        self.assertEqual(classes.path(self.a, self.b), [(self.a, self.b, 3)])
        self.assertEqual(points, [self.a, self.b, self.c])

    def test_bank_stays(self):
        points = [self.a, self.b, parse(self.bank, "(h a b)")]
        before = list(self.bank)
        classes = Classes(self.bank, points)
        classes.unite(self.a, self.b, 3)
        classes.groups()
        self.assertEqual(list(self.bank), before)

    def test_against_the_least_relation(self):
        for seed in range(120):
            held = Held(self, seed)
            for _ in range(8):
                for _ in range(held.chance.randrange(1, 5)):
                    held.join()
                held.check()
                if held.chance.random() < 0.5:
                    held.back()
                    held.check()

    def test_each_count(self):
        for seed in range(15):
            held = Held(self, 1000 + seed)
            for _ in range(14):
                held.join()
            stands = list(held.stands)
            for count in range(len(stands), -1, -1):
                held.classes.back(count)
                held.stands = stands[:count]
                held.check()
            for join in stands:
                held.classes.unite(*join)
                held.stands.append(join)
                held.check()

    def test_many_points(self):
        bank = self.bank
        node = call(bank, "x")
        points = [node]
        for _ in range(55):
            node = call(bank, "f", node)
            points.append(node)
        classes = Classes(bank, points)
        # f(f(x)) = x and f(f(f(x))) = x give that all are equal.
        classes.unite(points[2], points[0], 900)
        self.assertEqual(classes.groups(), [points[0::2], points[1::2]])
        classes.unite(points[0], points[3], 901)
        self.assertEqual(classes.groups(), [points])
        classes.back(1)
        self.assertEqual(classes.groups(), [points[0::2], points[1::2]])
