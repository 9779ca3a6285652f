"""papersat/joined.py: points 64 and 65."""

import random
import unittest

from papersat.joined import Joined
from papersat.listener import Listener
from papersat.log import Log
from papersat.meaning import meanings
from papersat.meeting import question
from papersat.reader import parse
from papersat.search import Search
from tests.goodness import is_good
from tests.layers import least_groups, model_of, numbers_can_hold
from tests.sentences import some_sentence
from tests.support import call, new_bank


class Asked:
    """A joined listener for the question of some texts, and the literals that it was told."""

    def __init__(self, test, texts, bank=None):
        self.test = test
        self.bank = new_bank() if bank is None else bank
        self.log = Log()
        self.sentences = [parse(self.bank, text) for text in texts]
        self.nodes, self.numbers = question(self.bank, self.log, self.sentences)
        self.truths = [node for node in self.nodes if self.bank.sort_of(node) == "truth"]
        self.joined = Joined(self.bank, self.log, self.nodes)
        self.heard = []

    def parse(self, text):
        return parse(self.bank, text)

    def told(self, *literals):
        for literal in literals:
            self.test.assertIsNone(self.joined.told(literal))
            self.heard.append(literal)

    def back(self, count):
        self.test.assertIsNone(self.joined.back(count))
        self.heard = self.heard[:count]

    def counts(self):
        joined = self.joined
        return (joined.classes.joins(), joined.rows.bounds(), joined.ways.limits())

    def points(self):
        """The points by point 64."""
        points = {1, 2}
        for node in self.nodes:
            op, _, parts = self.bank.node(node)
            if self.bank.sort_of(node) != "truth" or op == "call" and parts:
                points.add(node)
        return points

    def joins(self):
        """The joins by point 64, and the denied pairs."""
        joins, denied = [], []
        for literal in self.heard:
            op, _, parts = self.bank.node(abs(literal))
            if op == "equal" and self.bank.sort_of(parts[0]) != "truth":
                (joins if literal > 0 else denied).append(parts)
            if op == "call" and parts:
                joins.append((abs(literal), 1 if literal > 0 else 2))
        return joins, denied

    def classes_fault(self):
        joins, denied = self.joins()
        groups = least_groups(self.bank, self.points(), joins)
        self.test.assertEqual(self.joined.classes.groups(), groups)
        return any(x in group and y in group for x, y in [(1, 2), *denied] for group in groups)

    def fault(self):
        """The clause of the fault, or None; it is held against point 64."""
        before = len(self.log)
        number = self.joined.fault()
        self.test.assertEqual(self.joined.told_count(), len(self.heard))
        steps = self.log.all_steps()
        for each in range(before, len(steps)):
            self.test.assertIn(steps[each][0], ("same", "chain", "like", "resolve", "sum"))
            self.test.assertTrue(is_good(self.bank, steps, each), steps[each])
        if number is None:
            self.test.assertEqual(len(steps), before)
            self.test.assertFalse(self.classes_fault())
            self.test.assertTrue(numbers_can_hold(self.bank, self.heard, self.joined))
            return None
        self.test.assertTrue(before <= number < len(steps))
        clause = steps[number][1]
        self.test.assertTrue(all(-literal in self.heard for literal in clause))
        if steps[number][0] != "sum":
            self.test.assertTrue(self.classes_fault())
        return set(clause)


class KindsTest(unittest.TestCase):
    def test_is_a_listener(self):
        asked = Asked(self, [])
        self.assertIsInstance(asked.joined, Listener)
        for method in ("__init__", "told", "fault", "back", "told_count"):
            self.assertIn(method, vars(Joined))
        self.assertIsNone(asked.fault())
        self.assertEqual(asked.joined.classes.groups(), [[1], [2]])

    def test_points(self):
        asked = Asked(self, ["(or p (is_old (h a b)) (= x (+ y 1)) (<= (+ s t) 1/2))"])
        found = {point for group in asked.joined.classes.groups() for point in group}
        self.assertEqual(found, asked.points())
        self.assertNotIn(asked.parse("p"), found)
        for text in ("(is_old (h a b))", "a", "(h a b)", "x", "(+ y 1)", "y", "(+ s t)", "1/2", "true", "false"):
            self.assertIn(asked.parse(text), found)

    def test_equal_nodes(self):
        for texts in (("(= a b)", "a", "b"), ("(= x y)", "x", "y"), ("(= s t)", "s", "t"), ("(= x 5)", "x", "5")):
            for sign, joins in ((1, 1), (-1, 0)):
                asked = Asked(self, texts[:1])
                x, y = (asked.parse(text) for text in texts[1:])
                asked.told(sign * asked.sentences[0])
                self.assertEqual(asked.counts(), (joins, 0, 0))
                self.assertIs(asked.joined.classes.same(x, y), sign > 0)
                if sign > 0:
                    self.assertEqual(asked.joined.classes.path(x, y), [(x, y, asked.sentences[0])])
                self.assertIsNone(asked.fault())

    def test_calls_of_sort_truth(self):
        for sign, node in ((1, 1), (-1, 2)):
            asked = Asked(self, ["(is_old a)"])
            asked.told(sign * asked.sentences[0])
            self.assertEqual(asked.counts(), (1, 0, 0))
            label = sign * asked.sentences[0]
            self.assertEqual(asked.joined.classes.path(abs(label), node), [(abs(label), node, label)])

    def test_bounds(self):
        for text, sign, count in (
            ("(<= s t)", 1, 1), ("(<= s t)", -1, 1), ("(<= s 1/2)", 1, 1), ("(<= 1/3 1/2)", 1, 0), ("(<= 1/3 1/2)", -1, 0),
            ("(<= s (+ s 1/1))", 1, 0), ("(<= (* 2/1 s) s)", -1, 1),
        ):
            asked = Asked(self, [text])
            asked.told(sign * asked.sentences[0])
            self.assertEqual(asked.counts(), (0, count, 0))
            self.assertIsNone(asked.fault())

    def test_limits(self):
        for text, sign, count in (
            ("(<= x y)", 1, 1), ("(<= x y)", -1, 1), ("(<= x 5)", 1, 1), ("(<= 5 x)", 1, 1), ("(<= 5 (+ x 7))", -1, 1),
            ("(<= 5 6)", 1, 0), ("(<= 5 6)", -1, 0), ("(<= (+ x 3) x)", 1, 0), ("(<= (+ x 3) (+ y 4))", -1, 1),
        ):
            asked = Asked(self, [text])
            asked.told(sign * asked.sentences[0])
            self.assertEqual(asked.counts(), (0, 0, count))
            self.assertIsNone(asked.fault())

    def test_the_limits_themselves(self):
        # x and y are held by two limits each, so that only one height fits.
        asked = Asked(self, ["(<= (+ x 2) 7)", "(<= 5 x)", "(<= (+ y 3) (+ x 1))", "(<= y (+ x -3))", "(<= z y)", "(<= (+ z 1) y)"])
        one, two, three, four, five, six = asked.sentences
        asked.told(one, two, three, -four, five, -six)
        self.assertIsNone(asked.fault())
        x, y, z = (asked.parse(text) for text in "xyz")
        self.assertEqual(asked.joined.ways.heights(), {0: 0, x: 5, y: 3, z: 3})

    def test_the_bounds_themselves(self):
        asked = Asked(self, ["(<= (+ s t) 3/1)", "(<= 3/1 (+ t s))", "(<= (* 2/1 s) 1/1)", "(<= 1/2 s)", "(<= u t)", "(<= (+ t 1/1000) u)"])
        asked.told(*asked.sentences[:5], -asked.sentences[5])
        self.assertIsNone(asked.fault())
        point = asked.joined.rows.point()
        s, t, u = (asked.parse(text) for text in "stu")
        self.assertEqual((point[s], point[t]), ((1, 2), (5, 2)))
        self.assertEqual(sorted(point), sorted([s, t, u]))

    def test_strict_bounds(self):
        asked = Asked(self, ["(<= s t)", "(<= t s)"])
        asked.told(-asked.sentences[0], asked.sentences[1])
        self.assertIsNone(asked.fault())
        asked.back(1)
        asked.told(-asked.sentences[1])
        self.assertEqual(asked.fault(), set(asked.sentences))

    def test_other_literals(self):
        asked = Asked(self, ["(or p (not q) (and p q) (imply p q) (= p q) (if p q r) (distinct p q) (< x y) (distinct x y) true false)"])
        for node in asked.truths:
            op, _, parts = asked.bank.node(node)
            if op != "most" and not (op == "equal" and asked.bank.sort_of(parts[0]) != "truth"):
                for literal in (node, -node):
                    asked.told(literal)
                    self.assertEqual(asked.counts(), (0, 0, 0))
                    self.assertEqual(asked.joined.told_count(), 1)
                    self.assertIsNone(asked.fault())
                    asked.back(0)


class FaultsTest(unittest.TestCase):
    def last_kind(self, asked):
        return asked.log.step(len(asked.log) - 1)[0]

    def test_one_and_two(self):
        asked = Asked(self, ["(is_old a)", "(is_old b)", "(= a b)"])
        old, other, equal = asked.sentences
        asked.told(old, -other)
        self.assertIsNone(asked.fault())
        asked.told(equal)
        self.assertEqual(asked.fault(), {-old, other, -equal})
        self.assertEqual(asked.fault(), {-old, other, -equal})

    def test_a_denied_pair(self):
        asked = Asked(self, ["(= a b)", "(= b c)", "(= a c)", "(= (h a b) (h c b))"])
        first, second, third, fourth = asked.sentences
        asked.told(-third, first, second)
        self.assertEqual(asked.fault(), {third, -first, -second})
        asked.back(1)
        asked.told(-second, first)
        self.assertIsNone(asked.fault())
        asked.back(0)
        asked.told(third, -fourth)
        self.assertEqual(asked.fault(), {-third, fourth})
        self.assertEqual(self.last_kind(asked), "like")

    def test_a_denied_pair_of_a_point_with_itself(self):
        for text in ("(= a a)", "(= x x)", "(= (g s x) (g s x))"):
            asked = Asked(self, [text])
            asked.told(asked.sentences[0])
            self.assertIsNone(asked.fault())
            asked.back(0)
            asked.told(-asked.sentences[0])
            self.assertEqual(asked.fault(), {asked.sentences[0]})
            self.assertEqual(asked.log.step(len(asked.log) - 1), ("same", (asked.sentences[0],), None))

    def test_a_ring(self):
        asked = Asked(self, ["(<= x y)", "(<= y z)", "(<= (+ x 1) z)", "(<= z x)"])
        one, two, three, four = asked.sentences
        asked.told(one, two, -three)
        self.assertIsNone(asked.fault())
        asked.told(-four)
        self.assertEqual(asked.fault(), {three, four})
        step = asked.log.step(len(asked.log) - 1)
        self.assertEqual(step, ("sum", (three, four), ((1, 1), (1, 1))))
        asked.back(2)
        asked.told(four, three)
        self.assertEqual(asked.fault(), {-three, -four})
        asked.back(3)
        self.assertIsNone(asked.fault())

    def test_a_clash_of_rows(self):
        asked = Asked(self, ["(<= 1/1 s)", "(<= (* 1/2 s) 0/1)"])
        asked.told(*asked.sentences)
        self.assertEqual(asked.fault(), {-node for node in asked.sentences})
        kind, clause, details = asked.log.step(len(asked.log) - 1)
        self.assertEqual(kind, "sum")
        weights = dict(zip(clause, details))
        one, other = (weights[-node] for node in asked.sentences)
        self.assertEqual((2 * one[0] * other[1], one[0] > 0), (other[0] * one[1], True))

    def test_several_kinds_at_once(self):
        asked = Asked(self, ["(= a a)", "(<= x y)", "(<= y (+ x -1))", "(<= s t)", "(<= t s)", "(is_old a)"])
        literals = [-asked.sentences[0], asked.sentences[1], asked.sentences[2], -asked.sentences[3], -asked.sentences[4]]
        asked.told(*literals)
        for count in (5, 4, 3, 2, 1):
            asked.back(count)
            self.assertIsNotNone(asked.fault())
        asked.back(0)
        self.assertIsNone(asked.fault())
        asked.told(*literals[1:])
        for count in (4, 3, 2):
            asked.back(count)
            self.assertIsNotNone(asked.fault())
        asked.back(1)
        asked.told(*literals[3:])
        self.assertIsNotNone(asked.fault())

    def test_numbers_are_joined_as_points(self):
        asked = Asked(self, ["(= (f x) (f y))", "(= x y)"])
        asked.told(-asked.sentences[0], asked.sentences[1])
        self.assertEqual(asked.fault(), {asked.sentences[0], -asked.sentences[1]})

    def test_back_above_what_was_told(self):
        asked = Asked(self, ["(= a b)", "(<= s t)"])
        asked.told(*asked.sentences)
        for count in (2, 3, 9):
            asked.joined.back(count)
            self.assertEqual((asked.joined.told_count(), asked.counts()), (2, (1, 1, 0)))

    def test_nodes_are_kept_as_a_copy(self):
        asked = Asked(self, ["(= a b)"])
        nodes = list(asked.nodes)
        joined = Joined(asked.bank, asked.log, nodes)
        nodes.clear()
        joined.told(asked.sentences[0])
        self.assertTrue(joined.classes.same(call(asked.bank, "a"), call(asked.bank, "b")))
        self.assertEqual(Joined(asked.bank, asked.log, tuple(asked.nodes)).told_count(), 0)

    def test_by_chance(self):
        counts = {}
        for seed in range(250):
            chance = random.Random(seed)
            asked = Asked(self, [some_sentence(chance, 3) for _ in range(chance.randrange(1, 5))])
            literals = [node * chance.choice((1, -1)) for node in asked.truths]
            for _ in range(6):
                chance.shuffle(literals)
                left = [literal for literal in literals if abs(literal) not in map(abs, asked.heard)]
                asked.told(*left[:chance.randrange(1 + min(len(left), chance.choice((3, 10, 40))))])
                clause = asked.fault()
                kind = asked.log.step(len(asked.log) - 1)[0] if clause is not None else "none"
                counts[kind] = counts.get(kind, 0) + 1
                asked.back(chance.randrange(len(asked.heard) + 2))
                if chance.random() < 0.5:
                    asked.fault()
        for kind in ("none", "same", "sum"):
            self.assertGreater(counts[kind], 30, counts)
        self.assertGreater(counts["like"] + counts["chain"] + counts["resolve"], 30, counts)

    def test_each_count(self):
        for seed in range(40):
            chance = random.Random(700 + seed)
            asked = Asked(self, [some_sentence(chance, 3) for _ in range(3)])
            literals = [node * chance.choice((1, -1)) for node in asked.truths[:40]]
            chance.shuffle(literals)
            answers, states = [], []
            for count in range(len(literals) + 1):
                answers.append(asked.fault() is None)
                states.append((asked.counts(), asked.joined.classes.groups()))
                asked.told(*literals[count:count + 1])
            for count in range(len(literals), -1, -1):
                asked.back(count)
                self.assertEqual((asked.counts(), asked.joined.classes.groups()), states[count])
                self.assertIs(asked.fault() is None, answers[count])


class JoiningTest(unittest.TestCase):
    """The joining statement of point 65, with rows that a search finds."""

    def ask(self, asked):
        search = Search(asked.log, asked.truths, asked.numbers, asked.joined)
        before = len(asked.log)
        kind, what = search.ask(asked.sentences)
        steps = asked.log.all_steps()
        self.assertTrue(all(is_good(asked.bank, steps, number) for number in range(before, len(steps))))
        if kind == "yes":
            self.check_model(asked, what)
        else:
            self.assertLessEqual({-literal for literal in steps[what][1]}, set(asked.sentences))
        return kind

    def check_model(self, asked, row):
        model = model_of(asked.bank, asked.nodes, row, asked.joined)
        found = meanings(asked.bank, model, asked.nodes)
        for literal in row:
            self.assertIs(found[abs(literal)], literal > 0)
        for sentence in asked.sentences:
            self.assertIs(found[sentence], True)

    def test_sentences(self):
        for texts, kind in (
            (["(distinct a b c)", "(= (h a b) (h b a))"], "yes"),
            (["(= a b)", "(distinct (at a) (at b))"], "no"),
            (["(= (f (f (f x))) x)", "(= (f (f (f (f (f x))))) x)", "(not (= (f x) x))"], "no"),
            (["(= (f (f x)) x)", "(not (= (f x) x))"], "yes"),
            (["(< x y)", "(< y z)", "(< z (+ x 2))"], "no"),
            (["(< x y)", "(< y z)", "(< z (+ x 3))"], "yes"),
            (["(< s t)", "(< t u)", "(< u (+ s 1/1000))"], "yes"),
            (["(<= s t)", "(<= t s)", "(not (= (g s x) (g t x)))"], "no"),
            (["(<= x y)", "(<= y x)", "(is_old a)", "(not (= (g s x) (g s y)))"], "no"),
            (["(= x (if p y z))", "(not (= x y))", "p"], "no"),
            (["(= x (if p y z))", "(not (= x y))"], "yes"),
            (["(distinct x y z)", "(<= 0 x)", "(<= 0 y)", "(<= 0 z)", "(< x 2)", "(< y 2)", "(< z 2)"], "no"),
            (["(is_old a)", "(not (is_old b))"], "yes"),
            (["(is_old a)", "(not (is_old (h a b)))", "(= a (h a b))"], "no"),
            (["(= (+ s t) 3/1)", "(= (+ s (* -1/1 t)) 1/1)", "(not (= s 2/1))"], "no"),
            (["(= (+ s t) 3/1)", "(= (+ s (* -1/1 t)) 1/1)", "(= (g t x) s)"], "yes"),
            (["(<= (f x) 3)", "(<= 4 (f 2))", "(= x 2)"], "no"),
            ([], "yes"), (["false"], "no"), (["true"], "yes"),
        ):
            self.assertEqual(self.ask(Asked(self, texts)), kind, texts)

    def test_by_chance(self):
        kinds = {"yes": 0, "no": 0}
        for seed in range(250):
            chance = random.Random(seed)
            kinds[self.ask(Asked(self, [some_sentence(chance, 2) for _ in range(chance.randrange(2, 14))]))] += 1
        self.assertGreater(min(kinds.values()), 20, kinds)
