"""papersat/rows.py: points 55 to 58."""

import random
import unittest

from papersat.forms import form_value
from papersat.nudges import compare_nudged, nudged_minus
from papersat.ratios import minus, opposite, ratio
from papersat.rows import Rows
from papersat.tableau import Tableau
from tests.goodness import clashes
from tests.layers import holds


def form_of(constant, **rows):
    """A form from integers or ratios, with the nodes as n7=2."""
    def as_ratio(number):
        return number if isinstance(number, tuple) else (number, 1)

    pairs = sorted((int(name[1:]), as_ratio(number)) for name, number in rows.items())
    return (as_ratio(constant), tuple(pairs))


class Held:
    """A rows object beside the list of the bounds that stand."""

    def __init__(self, test):
        self.test = test
        self.rows = Rows()
        self.stands = []
        self.nodes = set()

    def bound(self, form, strict, label):
        self.test.assertIsNone(self.rows.bound(form, strict, label))
        self.stands.append((form, strict, label))
        self.nodes.update(node for node, _ in form[1])

    def back(self, count):
        self.test.assertIsNone(self.rows.back(count))
        self.stands = self.stands[:count]

    def settle(self):
        """True if all bounds can hold together; what settling gives is held against points 56 and 57."""
        clash = self.rows.settle()
        self.test.assertEqual(self.rows.bounds(), len(self.stands))
        if clash is None:
            self.check_point()
            return True
        self.test.assertIs(type(clash), list)
        bounds = {label: (form, strict) for form, strict, label in self.stands}
        sizes = [abs(label) for label, _ in clash]
        self.test.assertEqual(sizes, sorted(set(sizes)))
        for _, weight in clash:
            self.test.assertEqual((ratio(*weight), type(weight)), (weight, tuple))
            self.test.assertGreater(weight[0], 0)
        self.test.assertTrue(clashes([(bounds[label], weight) for label, weight in clash]))
        return False

    def check_point(self):
        point = self.rows.point()
        self.test.assertEqual(list(point), sorted(self.nodes))
        for value in point.values():
            self.test.assertEqual((ratio(*value), type(value)), (value, tuple))
        for form, strict, _ in self.stands:
            self.test.assertTrue(holds(form, strict, point), (form, strict, point))


def some_form(chance, nodes, size):
    count = chance.randrange(min(size, len(nodes)) + 1)
    rows = []
    for node in sorted(chance.sample(nodes, count)):
        rows.append((node, ratio(chance.choice((-3, -2, -1, -1, 1, 1, 2, 3)), chance.choice((1, 1, 1, 2, 3)))))
    return (ratio(chance.randrange(-6, 5), chance.choice((1, 1, 2, 3))), tuple(rows))


class RowsTest(unittest.TestCase):
    def setUp(self):
        self.held = Held(self)

    def test_nothing(self):
        self.assertTrue(self.held.settle())
        self.assertEqual((self.held.rows.point(), self.held.rows.bounds()), ({}, 0))

    def test_example(self):
        self.held.bound(((1, 1), ((7, (-1, 1)),)), False, 20)
        self.held.bound(((0, 1), ((7, (1, 2)),)), False, -21)
        self.assertFalse(self.held.settle())
        clash = self.held.rows.settle()
        self.assertEqual([label for label, _ in clash], [20, -21])
        self.assertEqual(form_value(((0, 1), ((1, (2, 1)), (2, (-1, 1)))), {1: clash[0][1], 2: clash[1][1]}), (0, 1))

    def test_without_rows(self):
        for constant, strict, fits in ((-1, True, True), (-1, False, True), (0, False, True), (0, True, False), ((1, 3), False, False), (1, True, False)):
            held = Held(self)
            held.bound(form_of(constant), strict, -4)
            self.assertIs(held.settle(), fits)
            if not fits:
                self.assertEqual(held.rows.settle(), [(-4, (1, 1))])
                held.back(0)
                self.assertTrue(held.settle())
            self.assertEqual(held.rows.point(), {})

    def test_two_without_rows_that_do_not_hold(self):
        self.held.bound(form_of(0), False, 1)
        self.held.bound(form_of(1), False, 2)
        self.held.bound(form_of(-1, n5=1), False, 3)
        self.held.bound(form_of(2), True, 4)
        for count, fits in ((4, False), (3, False), (2, False), (1, True), (0, True)):
            self.held.back(count)
            self.assertIs(self.held.settle(), fits)

    def test_strict_and_not(self):
        # x at most 2 and x at least 2, each strict or not.
        for above in (False, True):
            for below in (False, True):
                held = Held(self)
                held.bound(form_of(-2, n3=1), above, 8)
                held.bound(form_of(2, n3=-1), below, -9)
                self.assertIs(held.settle(), not above and not below)
        self.held.bound(form_of(-2, n3=1), True, 8)
        self.held.bound(form_of((3, 2), n3=-1), True, 9)
        self.assertTrue(self.held.settle())

    def test_strict_ones_of_several_nodes(self):
        # x < y, y < z, z < x + 1/1000, and then z < x.
        for label, (a, b) in enumerate(((1, 2), (2, 3)), 1):
            self.held.bound(form_of(0, **{f"n{a}": 1, f"n{b}": -1}), True, label)
        self.held.bound(form_of((-1, 1000), n3=1, n1=-1), True, 3)
        self.assertTrue(self.held.settle())
        self.held.bound(form_of(0, n3=1, n1=-1), False, 4)
        self.assertFalse(self.held.settle())
        self.assertEqual([label for label, _ in self.held.rows.settle()], [1, 2, 4])

    def test_a_strict_bound_makes_the_clash(self):
        for strict in ((True, False, False), (False, False, True), (False, False, False)):
            held = Held(self)
            held.bound(form_of(0, n1=1, n2=-1), strict[0], 1)
            held.bound(form_of(0, n2=2, n3=-2), strict[1], -2)
            held.bound(form_of(0, n3=3, n1=-3), strict[2], 3)
            self.assertIs(held.settle(), True not in strict)

    def test_equal_forms_with_other_limits(self):
        self.held.bound(form_of(-5, n1=1, n2=1), False, 1)
        self.held.bound(form_of(-3, n1=2, n2=2), False, 2)
        self.held.bound(form_of(-4, n1=1, n2=1), True, 3)
        self.held.bound(form_of((3, 2), n1=-1, n2=-1), False, 4)
        self.assertTrue(self.held.settle())
        self.held.bound(form_of(-3, n1=2, n2=2), True, 5)
        self.assertFalse(self.held.settle())
        self.assertEqual([label for label, _ in self.held.rows.settle()], [4, 5])
        self.held.back(4)
        self.assertTrue(self.held.settle())
        self.held.bound(form_of((8, 5), n1=-1, n2=-1), False, 6)
        self.assertFalse(self.held.settle())
        self.held.back(1)
        self.held.bound(form_of((8, 5), n1=-1, n2=-1), False, 7)
        self.assertTrue(self.held.settle())

    def test_the_same_bound_twice(self):
        for label in (1, 2):
            self.held.bound(form_of(-1, n4=1), False, label)
        self.held.back(1)
        self.held.bound(form_of(2, n4=-1), False, 3)
        self.assertFalse(self.held.settle())
        self.assertEqual([label for label, _ in self.held.rows.settle()], [1, 3])

    def test_settling_again(self):
        self.held.bound(form_of(-1, n1=1), False, 1)
        for _ in range(3):
            self.assertTrue(self.held.settle())
        self.held.bound(form_of(3, n1=-1, n2=1), False, 2)
        self.held.bound(form_of(0, n2=-1), False, 3)
        for _ in range(3):
            self.assertFalse(self.held.settle())
        self.held.back(3)
        self.assertFalse(self.held.settle())

    def test_back_behind_a_clash(self):
        self.held.bound(form_of(-1, n1=1), False, 1)
        self.held.bound(form_of(3, n1=-1, n2=1), False, 2)
        self.assertTrue(self.held.settle())
        self.held.bound(form_of(0, n2=-1), False, 3)
        self.assertFalse(self.held.settle())
        self.held.back(2)
        self.assertTrue(self.held.settle())
        self.held.back(0)
        self.assertTrue(self.held.settle())
        self.assertEqual(sorted(self.held.rows.point()), [1, 2])

    def test_nodes_of_bounds_that_were_taken_back(self):
        self.held.bound(form_of(3, n9=-1, n4=2), True, 1)
        self.held.back(0)
        self.assertTrue(self.held.settle())
        self.assertEqual(list(self.held.rows.point()), [4, 9])

    def test_the_point_after_going_back(self):
        self.held.bound(form_of(1, n1=-1), True, 1)
        self.held.bound(form_of(0, n1=1, n2=-1), True, 2)
        self.held.bound(form_of(-5, n2=1), True, 3)
        self.assertTrue(self.held.settle())
        for count in (2, 1, 0):
            self.held.back(count)
            self.held.check_point()

    def test_counts(self):
        for count in range(1, 6):
            self.held.bound(form_of(-1, n1=1) if count < 4 else form_of(-1), False, count)
            self.assertEqual(self.held.rows.bounds(), count)
        for count, left in ((9, 5), (5, 5), (4, 4), (1, 1), (1, 1), (0, 0)):
            self.held.back(count)
            self.assertEqual(self.held.rows.bounds(), left)

    def test_results_are_new(self):
        self.held.bound(form_of(1, n1=-1), False, 1)
        self.held.rows.settle()
        self.held.rows.point().clear()
        self.held.check_point()
        self.held.bound(form_of(0, n1=1), False, 2)
        self.held.rows.settle().clear()
        self.assertEqual(len(self.held.rows.settle()), 2)

    def test_many_digits(self):
        chance = random.Random(3)
        for seed in range(12):
            held = Held(self)
            fits = {node: ratio(chance.randrange(-10 ** 40, 10 ** 40), chance.randrange(1, 10 ** 40)) for node in (2, 5, 6, 8)}
            for label in range(1, 25):
                rows = tuple((node, ratio(chance.randrange(-10 ** 40, 10 ** 40), chance.randrange(1, 10 ** 40))) for node in fits)
                value = form_value(((0, 1), rows), fits)
                slack = chance.choice(((0, 1), (1, 10 ** 40), (1, 1)))
                held.bound((minus(opposite(value), slack), rows), slack[0] > 0, label * chance.choice((1, -1)))
            self.assertTrue(held.settle())
            form, _, _ = held.stands[seed]
            held.bound((minus((1, 10 ** 40), form[0]), tuple((node, opposite(c)) for node, c in form[1])), False, 99)
            self.assertFalse(held.settle())
            held.back(24)
            self.assertTrue(held.settle())

    def test_by_chance(self):
        counts = {True: 0, False: 0}
        for seed in range(500):
            chance = random.Random(seed)
            held = Held(self)
            nodes = chance.sample(range(1, 40), chance.randrange(1, 6))
            size = chance.choice((2, 3, 5))
            label = 0
            for _ in range(14):
                if chance.random() < 0.35:
                    held.back(chance.randrange(len(held.stands) + 2))
                for _ in range(chance.randrange(3)):
                    label += 1
                    held.bound(some_form(chance, nodes, size), chance.random() < 0.4, label * chance.choice((1, -1)))
                if chance.random() < 0.8:
                    fits = held.settle()
                    counts[fits] += 1
                    if fits and chance.random() < 0.2:
                        held.back(chance.randrange(len(held.stands) + 1))
                        held.check_point()
        self.assertGreater(min(counts.values()), 1000)

    def test_going_back_and_on_changes_no_answer(self):
        for seed in range(60):
            chance = random.Random(seed)
            held = Held(self)
            bounds = [(some_form(chance, [1, 2, 3], 3), chance.random() < 0.4, label) for label in range(1, 13)]
            answers = []
            for bound in bounds:
                held.bound(*bound)
                answers.append(held.settle())
            for count in range(12, 0, -1):
                held.back(count)
                self.assertIs(held.settle(), answers[count - 1])
            held.back(0)
            for bound, answer in zip(bounds, answers):
                held.bound(*bound)
                self.assertIs(held.settle(), answer)

    def test_many_bounds(self):
        chance = random.Random(1)
        nodes = list(range(1, 13))
        fits = {node: ratio(chance.randrange(-9, 9), chance.randrange(1, 9)) for node in nodes}
        for label in range(1, 301):
            form = some_form(chance, nodes, 3)
            value = form_value(((0, 1), form[1]), fits)
            self.held.bound((minus(opposite(value), (chance.randrange(3), 1)), form[1]), False, label)
        self.assertTrue(self.held.settle())
        for label in range(301, 400):
            self.held.bound(form_of(-100, **{f"n{chance.randrange(1, 13)}": 1}), True, label)
        self.assertTrue(self.held.settle())


class TableauTest(unittest.TestCase):
    def test_values_fit_together(self):
        for seed in range(80):
            chance = random.Random(seed)
            tableau = Tableau()
            columns = {}
            for _ in range(25):
                nodes = sorted(chance.sample(range(1, 6), chance.randrange(1, 4)))
                total = tuple((node, chance.choice((-2, -1, 1, 3))) for node in nodes)
                columns[tableau.enter(total)] = total
                free = [column for column in columns if tableau.is_free(column)]
                value = (chance.randrange(-5, 5), chance.randrange(-1, 2), chance.randrange(1, 4))
                summed = [column for column in columns if not tableau.is_free(column)]
                if summed and chance.random() < 0.7:
                    column = chance.choice(summed)
                    taken = chance.choice(sorted(tableau.line(column)))
                    tableau.exchange(column, taken, value)
                    self.assertEqual((tableau.is_free(column), tableau.is_free(taken)), (True, False))
                elif free:
                    column = chance.choice(free)
                    tableau.move(column, value)
                else:
                    continue
                self.assertEqual(compare_nudged(tableau.value(column), value), 0)
                self.check(tableau, columns)

    def check(self, tableau, columns):
        values = dict(tableau.node_values())
        for column, total in columns.items():
            p = sum(factor * values[node][0] for node, factor in total)
            t = sum(factor * values[node][1] for node, factor in total)
            self.assertEqual(compare_nudged(tableau.value(column), (p, t, values[total[0][0]][2])), 0)
            line = tableau.line(column)
            self.assertTrue(all(tableau.is_free(free) and entry != 0 for free, entry in line.items()))
            left = (0, 0, 1)
            for free, entry in line.items():
                p, t, q = tableau.value(free)
                left = nudged_minus(left, (-entry * p, -entry * t, q))
            p, t, q = tableau.value(column)
            self.assertEqual(compare_nudged(left, (p * tableau.scale(), t * tableau.scale(), q)), 0)
