"""papersat/log.py: points 31 to 33."""

import unittest

from papersat.log import Log

STEPS = [
    ("given", (1, 2), None), ("given", (-1,), None), ("resolve", (2,), (0, ((1, 1),))), ("part", (3,), 7),
    ("chain", (4, -5), (2, (5,))), ("like", (6,), (8, 9)), ("sum", (-3,), ((1, 2),)), ("same", (5,), None),
    ("resolve", (2,), (2, ())), ("resolve", (), (1, ((-1, 0), (2, 8)))),
]


class LogTest(unittest.TestCase):
    def test_write(self):
        log = Log()
        self.assertEqual(len(log), 0)
        self.assertEqual(list(log), [])
        self.assertEqual([log.write(*step) for step in STEPS], list(range(len(STEPS))))
        self.assertEqual(len(log), len(STEPS))
        self.assertEqual(list(log), STEPS)
        self.assertEqual(log.all_steps(), STEPS)
        for number, step in enumerate(STEPS):
            self.assertEqual(log.step(number), step)
            self.assertIs(type(log.step(number)), tuple)
            self.assertEqual(log.clause_at(number), step[1])

    def test_steps_are_not_looked_at(self):
        log = Log()
        for step in (("resolve", (1, -1), None), ("", (), ()), ("no kind", (0, 0), (1, (2,))), ("resolve", (), (5, ((7, -7),)))):
            number = log.write(*step)
            self.assertEqual(log.step(number), step)

    def test_equal_steps_are_different_ones(self):
        log = Log()
        self.assertEqual([log.write("given", (1,), None) for _ in range(3)], [0, 1, 2])

    def test_list_is_new(self):
        log = Log()
        log.write("given", (), None)
        log.all_steps().append("more")
        self.assertIsNot(log.all_steps(), log.all_steps())
        self.assertEqual((len(log), log.all_steps()), (1, [("given", (), None)]))


class TakeTest(unittest.TestCase):
    def test_into_an_empty_log(self):
        log = Log()
        steps = list(STEPS)
        self.assertEqual(log.take(steps), len(STEPS) - 1)
        self.assertEqual(log.all_steps(), STEPS)
        self.assertEqual(steps, STEPS)

    def test_into_a_log_with_steps(self):
        log = Log()
        for _ in range(5):
            log.write("given", (9,), None)
        steps = list(STEPS)
        self.assertEqual(log.take(steps), 4 + len(STEPS))
        self.assertEqual(steps, STEPS)
        self.assertEqual(log.all_steps()[:5], [("given", (9,), None)] * 5)
        self.assertEqual(log.all_steps()[5:], [
            ("given", (1, 2), None), ("given", (-1,), None), ("resolve", (2,), (5, ((1, 6),))), ("part", (3,), 7),
            ("chain", (4, -5), (2, (5,))), ("like", (6,), (8, 9)), ("sum", (-3,), ((1, 2),)), ("same", (5,), None),
            ("resolve", (2,), (7, ())), ("resolve", (), (6, ((-1, 5), (2, 13)))),
        ])

    def test_twice(self):
        log = Log()
        log.take(STEPS[:3])
        self.assertEqual(log.take(STEPS[:3]), 5)
        self.assertEqual(log.step(2), ("resolve", (2,), (0, ((1, 1),))))
        self.assertEqual(log.step(5), ("resolve", (2,), (3, ((1, 4),))))
        self.assertIs(type(log.step(5)[2][1]), tuple)

    def test_own_steps(self):
        log = Log()
        log.take(STEPS[:3])
        self.assertEqual(log.take(log.all_steps()), 5)
        self.assertEqual(log.step(5), ("resolve", (2,), (3, ((1, 4),))))

    def test_empty_list(self):
        log = Log()
        self.assertIsNone(log.take([]))
        self.assertEqual(len(log), 0)
        log.write("given", (), None)
        self.assertIsNone(log.take([]))
        self.assertEqual(len(log), 1)

    def test_one_step(self):
        log = Log()
        self.assertEqual(log.take([("given", (), None)]), 0)
        self.assertEqual(log.take([("same", (4,), None)]), 1)
