"""papersat/ways.py: points 59 to 61."""

import random
import unittest

from papersat.ways import Ways
from tests.layers import heights_exist


class Held:
    """A ways object beside the list of the limits that stand."""

    def __init__(self, test):
        self.test = test
        self.ways = Ways()
        self.stands = []
        self.places = {0}

    def limit(self, x, y, k, label):
        self.test.assertIsNone(self.ways.limit(x, y, k, label))
        self.stands.append((x, y, k, label))
        self.places.update((x, y))

    def back(self, count):
        self.test.assertIsNone(self.ways.back(count))
        self.stands = self.stands[:count]

    def settle(self):
        """True if all limits can hold; what settling gives is held against point 60."""
        ring = self.ways.settle()
        self.test.assertEqual(self.ways.limits(), len(self.stands))
        self.test.assertEqual(ring is None, heights_exist(self.stands))
        if ring is None:
            self.check_heights()
            return True
        self.test.assertIs(type(ring), list)
        self.test.assertEqual(len(set(ring)), len(ring))
        by_label = {limit[3]: limit for limit in self.stands}
        limits = [by_label[label] for label in ring]
        for limit, following in zip(limits, limits[1:] + limits[:1]):
            self.test.assertEqual(limit[1], following[0])
        self.test.assertEqual(len({limit[0] for limit in limits}), len(limits))
        self.test.assertLess(sum(limit[2] for limit in limits), 0)
        return False

    def check_heights(self):
        heights = self.ways.heights()
        self.test.assertEqual(list(heights), sorted(self.places))
        self.test.assertEqual(heights[0], 0)
        self.test.assertTrue(all(type(height) is int for height in heights.values()))
        for x, y, k, _ in self.stands:
            self.test.assertLessEqual(heights[x] - heights[y], k)


class WaysTest(unittest.TestCase):
    def setUp(self):
        self.held = Held(self)

    def test_nothing(self):
        self.assertTrue(self.held.settle())
        self.assertEqual((self.held.ways.heights(), self.held.ways.limits()), ({0: 0}, 0))

    def test_the_same_place(self):
        for place in (0, 4):
            for k, fits in ((0, True), (3, True), (-1, False), (-(10 ** 30), False)):
                held = Held(self)
                held.limit(place, place, k, 8)
                self.assertIs(held.settle(), fits)
                if not fits:
                    self.assertEqual(held.ways.settle(), [8])
                    held.back(0)
                    self.assertTrue(held.settle())

    def test_place_zero(self):
        self.held.limit(5, 0, -3, 1)
        self.held.limit(0, 6, -4, 2)
        self.assertTrue(self.held.settle())
        self.held.limit(6, 5, 6, -3)
        self.assertFalse(self.held.settle())
        self.assertEqual(sorted(self.held.ways.settle()), [-3, 1, 2])
        self.held.back(2)
        self.held.limit(6, 5, 7, -3)
        self.assertTrue(self.held.settle())
        self.assertEqual(self.held.ways.heights(), {0: 0, 5: -3, 6: 4})

    def test_a_ring_of_two(self):
        self.held.limit(1, 2, 4, 10)
        self.held.limit(2, 1, -5, -11)
        self.assertFalse(self.held.settle())
        self.assertEqual(sorted(self.held.ways.settle()), [-11, 10])
        self.held.back(1)
        self.held.limit(2, 1, -4, 12)
        self.assertTrue(self.held.settle())

    def test_several_limits_of_the_same_places(self):
        for label, k in enumerate((5, 3, 4, 3), 1):
            self.held.limit(1, 2, k, label)
        self.held.limit(2, 1, -3, 5)
        self.assertTrue(self.held.settle())
        self.held.limit(2, 1, -4, 6)
        self.assertFalse(self.held.settle())

    def test_settling_again(self):
        self.held.limit(1, 2, -1, 1)
        for _ in range(3):
            self.assertTrue(self.held.settle())
        self.held.limit(2, 1, 0, 2)
        for _ in range(3):
            self.assertFalse(self.held.settle())
        self.held.limit(3, 1, 0, 3)
        self.assertFalse(self.held.settle())
        self.held.back(3)
        self.assertFalse(self.held.settle())

    def test_back_behind_a_ring(self):
        self.held.limit(1, 2, -1, 1)
        self.held.limit(2, 3, -1, 2)
        self.held.limit(3, 1, 1, 3)
        self.held.limit(3, 0, -9, 4)
        self.assertFalse(self.held.settle())
        for count, fits in ((3, False), (2, True)):
            self.held.back(count)
            self.assertIs(self.held.settle(), fits)
        self.held.limit(3, 0, -9, 4)
        self.held.limit(3, 1, 2, 3)
        self.assertTrue(self.held.settle())
        for count in (3, 2, 1, 0):
            self.held.back(count)
            self.held.check_heights()

    def test_places_of_limits_that_were_taken_back(self):
        self.held.limit(9, 4, 1, 1)
        self.held.back(0)
        self.assertTrue(self.held.settle())
        self.assertEqual(list(self.held.ways.heights()), [0, 4, 9])

    def test_counts(self):
        for count in range(1, 5):
            self.held.limit(1, 2, count, count)
            self.assertEqual(self.held.ways.limits(), count)
        for count, left in ((7, 4), (4, 4), (3, 3), (3, 3), (0, 0)):
            self.held.back(count)
            self.assertEqual(self.held.ways.limits(), left)

    def test_results_are_new(self):
        self.held.limit(1, 2, -3, 5)
        self.assertTrue(self.held.settle())
        self.held.ways.heights().clear()
        self.held.check_heights()
        self.held.limit(2, 1, 0, 6)
        self.held.ways.settle().clear()
        self.assertFalse(self.held.settle())

    def test_a_long_way(self):
        for place in range(1, 200):
            self.held.limit(place + 1, place, -1, place)
        self.held.limit(1, 200, 198, -200)
        self.assertFalse(self.held.settle())
        self.assertEqual(len(self.held.ways.settle()), 200)
        self.held.back(199)
        self.held.limit(1, 200, 199, -200)
        self.held.limit(1, 0, -(10 ** 20), 201)
        self.assertTrue(self.held.settle())

    def test_by_chance(self):
        counts = {True: 0, False: 0}
        for seed in range(700):
            chance = random.Random(seed)
            held = Held(self)
            places = [0] + chance.sample(range(1, 50), chance.randrange(1, 7))
            low = chance.choice((-3, -1, 0))
            label = 0
            for _ in range(16):
                if chance.random() < 0.35:
                    held.back(chance.randrange(len(held.stands) + 2))
                for _ in range(chance.randrange(4)):
                    label += 1
                    held.limit(chance.choice(places), chance.choice(places), chance.randrange(low, 7), label * chance.choice((1, -1)))
                if chance.random() < 0.8:
                    fits = held.settle()
                    counts[fits] += 1
                    if fits and chance.random() < 0.2:
                        held.back(chance.randrange(len(held.stands) + 1))
                        held.check_heights()
        self.assertGreater(min(counts.values()), 1000)
