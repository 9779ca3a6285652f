"""papersat/trimming.py: points 31 and 68."""

import random
import unittest

from papersat.checker import check, first_bad
from papersat.log import Log
from papersat.trimming import trim
from tests.answers import refused_sentences


def given(*literals):
    return ("given", literals, None)


def resolved(literals, first, *strikes):
    return ("resolve", tuple(literals), (first, tuple(strikes)))


class TrimTest(unittest.TestCase):
    def test_an_empty_list(self):
        steps = []
        self.assertEqual(trim(steps), [])
        self.assertIsNot(trim(steps), steps)

    def test_one_step(self):
        self.assertEqual(trim([given(1, 2)]), [given(1, 2)])

    def test_only_the_last_step_without_strikes(self):
        self.assertEqual(trim([given(1), given(2), ("sum", (3,), ((1, 1),))]), [("sum", (3,), ((1, 1),))])

    def test_numbers_are_changed(self):
        steps = [given(1, 2), given(5), given(-2, 3), given(6), resolved((1, 3), 0, (2, 2))]
        self.assertEqual(trim(steps), [given(1, 2), given(-2, 3), resolved((1, 3), 0, (2, 1))])
        steps = [given(9), given(1, 2), given(-2, 3), resolved((1, 3), 1, (2, 2)), given(8), given(-3), resolved((1,), 3, (3, 5)), given(7)]
        self.assertEqual(trim(steps), [given(7)])
        self.assertEqual(trim(steps[:7]), [
            given(1, 2), given(-2, 3), resolved((1, 3), 0, (2, 1)), given(-3), resolved((1,), 2, (3, 3)),
        ])

    def test_a_step_that_is_named_several_times(self):
        steps = [given(7), given(1, 2), given(-1, 2), given(-2, 1), resolved((1,), 1, (2, 3), (1, 2), (2, 3), (1, 2), (2, 3))]
        self.assertEqual(trim(steps), [
            given(1, 2), given(-1, 2), given(-2, 1), resolved((1,), 0, (2, 2), (1, 1), (2, 2), (1, 1), (2, 2)),
        ])
        twice = [given(4), given(1), resolved((1,), 1), resolved((1,), 2), resolved((1,), 2), resolved((1,), 4)]
        self.assertEqual(trim(twice), [given(1), resolved((1,), 0), resolved((1,), 1), resolved((1,), 2)])

    def test_what_a_left_out_step_names_is_left_out(self):
        steps = [given(1), given(2), resolved((2,), 1), given(3), resolved((3,), 3)]
        self.assertEqual(trim(steps), [given(3), resolved((3,), 0)])

    def test_only_resolve_steps_name_steps(self):
        # The details of the other kinds have numbers of nodes and weights.
        for step in (("part", (1,), 0), ("chain", (-3, 5), (0, (1, 0))), ("like", (-3, 5), (0, 1)), ("sum", (3,), ((0, 1),)), ("same", (1,), None)):
            self.assertEqual(trim([given(1), given(2), step]), [step])
            self.assertEqual(trim([given(1), step, resolved(step[1], 1)]), [step, resolved(step[1], 0)])

    def test_the_passed_list_stays(self):
        steps = [given(1), given(2), resolved((2,), 1)]
        copy = list(steps)
        result = trim(steps)
        self.assertEqual(steps, copy)
        result.append(given(3))
        self.assertEqual(trim(steps), [given(2), resolved((2,), 0)])

    def test_the_whole_list(self):
        steps = [given(1), resolved((1,), 0), resolved((1,), 1)]
        self.assertEqual(trim(steps), steps)
        self.assertIsNot(trim(steps), steps)

    def test_trimming_twice(self):
        for seed in range(100):
            chance = random.Random(seed)
            steps = []
            for number in range(chance.randrange(1, 40)):
                if number < 3 or chance.random() < 0.4:
                    steps.append(given(chance.randrange(1, 9)))
                else:
                    strikes = [(chance.randrange(1, 9), chance.randrange(number)) for _ in range(chance.randrange(4))]
                    steps.append(resolved((1,), chance.randrange(number), *strikes))
            trimmed = trim(steps)
            self.assertEqual(trim(trimmed), trimmed)
            self.assertEqual(trimmed[-1][1], steps[-1][1])
            self.assertEqual(trimmed, self.plain(steps))

    def plain(self, steps):
        """The trimmed list by the words of point 68."""
        kept = {len(steps) - 1}
        while True:
            named = set()
            for number in kept:
                if steps[number][0] == "resolve":
                    first, strikes = steps[number][2]
                    named |= {first, *[pair[1] for pair in strikes]}
            if named <= kept:
                break
            kept |= named
        order = sorted(kept)
        result = []
        for number in order:
            kind, clause, details = steps[number]
            if kind == "resolve":
                details = (order.index(details[0]), tuple((literal, order.index(each)) for literal, each in details[1]))
            result.append((kind, clause, details))
        return result


class PapersTest(unittest.TestCase):
    def test_a_trimmed_paper_is_a_paper(self):
        for _, bank, answer in refused_sentences(self, 60, 20):
            # Steps that nothing needs are put in front and taken out again.
            log = Log()
            for _ in range(3):
                log.write("part", (1,), 1)
            log.take(answer.paper)
            steps = log.all_steps()
            self.assertIsNone(first_bad(bank, steps))
            self.assertEqual(trim(steps), answer.paper)
            self.assertTrue(check(bank, answer.sentences, trim(steps)))
            self.assertIsNone(first_bad(bank, trim(steps[:-1])))


if __name__ == "__main__":
    unittest.main()
