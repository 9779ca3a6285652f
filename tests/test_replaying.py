"""papersat/replaying.py: point 80."""

import random
import unittest

from papersat.desk import Desk
from papersat.errors import BadName, BadSort, BadText, NameTaken, NoLevel, UnknownName
from papersat.models import model_text
from papersat.replaying import replay
from papersat.signrows import sign_rows
from tests.answers import hold
from tests.sentences import knotted_sentences
from tests.desks import new_desk


def told(answer):
    """What an answer says, to be compared."""
    return (answer.sentences, answer.yes, answer.paper, answer.core, answer.model and model_text(answer.model))


class ReplayTest(unittest.TestCase):
    def test_no_deeds(self):
        for deeds in ([], ()):
            desk, answers = replay(deeds)
            self.assertEqual((type(desk), answers, desk.journal(), desk.last()), (Desk, [], [], None))

    def test_each_deed(self):
        deeds = [
            ("sort", "thing"), ("function", "p", (), "truth"), ("function", "f", ("thing", "whole"), "ratio"), ("push",), ("claim", "p"), ("ask", ()),
            ("ask", ("p", "(not p)")), ("follows", "p"), ("push",), ("trial", ("(not p)",)), ("drop",), ("trial", ()),
        ]
        for passed in (deeds, tuple(deeds)):
            result = replay(passed)
            self.assertIs(type(result), tuple)
            desk, answers = result
            self.assertEqual(desk.journal(), deeds)
            self.assertEqual([answer.yes for answer in answers], [True, False, False, False, True])
            self.assertIs(desk.last(), answers[-1])
            self.assertEqual((desk.level_count, len(desk.standing())), (2, 1))
            self.assertEqual(desk.signature.arguments_of("f"), ("thing", "whole"))
        self.assertEqual(len(deeds), 12)

    def test_errors(self):
        before = [("function", "p", (), "truth"), ("function", "x", (), "whole"), ("claim", "p")]
        for deed, error in (
            (("drop",), NoLevel), (("claim", "q"), UnknownName), (("claim", "x"), BadSort), (("claim", "("), BadText), (("ask", ("p", "x")), BadSort),
            (("follows", ")"), BadText), (("trial", ("p", "q")), UnknownName), (("sort", "p"), NameTaken), (("sort", "not"), BadName),
            (("function", "y", ("truth",), "whole"), BadSort), (("function", "y", (), "nothing"), UnknownName),
        ):
            with self.assertRaises(error):
                replay(before + [deed, ("claim", "((((")])
            with self.assertRaises(error):
                replay([*before, ("ask", ()), deed, ("drop",)])

    def test_declarations_between_the_claims(self):
        desk = Desk()
        desk.declare_function("x", [], "whole")
        desk.claim("(<= 0 x)")
        first = desk.ask()
        desk.declare_sort("thing")
        desk.declare_function("y", [], "whole")
        desk.claim("(let ((v (+ x 1))) (< v y))")
        second = desk.ask(["(< y 2)"])
        desk.declare_function("v", [], "whole")
        third = desk.ask(["(= v y)"])
        again, answers = replay(desk.journal())
        self.assertEqual([told(answer) for answer in answers], [told(answer) for answer in (first, second, third)])
        self.assertEqual([answer.yes for answer in answers], [True, False, True])
        self.assertEqual(list(again.bank), list(desk.bank))

    def test_two_desks_with_the_same_names(self):
        one, other = Desk(), Desk()
        one.declare_sort("n")
        one.declare_function("f", ["n"], "whole")
        one.declare_function("a", [], "n")
        other.declare_function("n", [], "whole")
        other.declare_function("f", ["whole"], "truth")
        other.declare_function("a", [], "whole")
        one.claim("(< (f a) 3)")
        other.claim("(f a)")
        answers = [one.ask().yes, other.ask(["(= a n)", "(not (f n))"]).yes, one.ask(["(= (f a) 3)"]).yes, other.ask(["(not (= a n))", "(not (f n))"]).yes]
        self.assertEqual(answers, [True, False, False, True])
        self.assertEqual([answer.yes for answer in replay(one.journal())[1]], [True, False])
        self.assertEqual([answer.yes for answer in replay(other.journal())[1]], [False, True])

    def visit(self, seed, besides):
        """A desk at which deeds were done by chance, and its answers."""
        chance = random.Random(seed)
        desk = new_desk()
        desk.declare_function("u", [], "ratio")
        texts = knotted_sentences(chance, 20)
        answers = []
        for number in range(30):
            deed = chance.randrange(9)
            if deed == 0:
                desk.push()
            elif deed == 1 and desk.level_count > 1:
                desk.drop()
            elif deed == 2:
                answers.append(desk.ask(chance.sample(texts, 3)))
            elif deed == 3:
                answers.append(desk.follows(chance.choice(texts)))
            elif deed == 4:
                answers.append(desk.trial(chance.sample(texts, 4)))
            elif deed == 5:
                desk.declare_function(f"new{number}", ["thing"], "thing")
                desk.claim(f"(= (new{number} a) (new{number} b))")
            else:
                desk.claim(chance.choice(texts))
            besides(chance, desk, texts)
        answers.append(desk.ask())
        return desk, answers

    def test_journals_by_chance(self):
        def look(chance, desk, texts):
            desk.standing(), desk.last(), desk.journal(), desk.level_count

        sides = {True: 0, False: 0}
        for seed in range(25):
            desk, answers = self.visit(seed, look)
            again, others = replay(desk.journal())
            self.assertEqual([told(answer) for answer in others], [told(answer) for answer in answers])
            self.assertEqual(again.journal(), desk.journal())
            self.assertEqual((again.standing(), again.level_count), (desk.standing(), desk.level_count))
            self.assertEqual((list(again.bank), again.kept.lists()), (list(desk.bank), desk.kept.lists()))
            for answer in others:
                sides[hold(self, again.bank, answer.sentences, answer)] += 1
        self.assertGreater(min(sides.values()), 40, sides)

    def test_sides_are_the_same_after_other_calls(self):
        def meddle(chance, desk, texts):
            kind = chance.randrange(5)
            if kind == 0:
                with self.assertRaises(UnknownName):
                    desk.trial([texts[0], "(and (< x 55) nobody)"])
            elif kind == 1 and desk.last() and desk.last().yes:
                desk.value("(f (+ x 12))")
            elif kind == 2:
                sign_rows(desk, texts[:1])
            elif kind == 3:
                desk.bank.make("whole", chance.randrange(99), ())

        for seed in range(15):
            desk, answers = self.visit(200 + seed, meddle)
            _, others = replay(desk.journal())
            self.assertEqual([answer.yes for answer in others], [answer.yes for answer in answers])


if __name__ == "__main__":
    unittest.main()
