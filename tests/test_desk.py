"""papersat/desk.py: points 74 to 79, and the journal of point 80."""

import random
import unittest

from papersat.bank import Bank
from papersat.desk import Desk
from papersat.errors import BadName, BadSort, BadText, NameTaken, NoAnswer, NoLevel, UnknownName
from papersat.kept import Kept
from papersat.meaning import clause_holds, meaning
from papersat.models import model_text
from papersat.reader import parse
from papersat.signature import Signature
from papersat.solver import Answer, solve
from tests.answers import hold
from tests.desks import REFUSED, new_desk
from tests.sentences import knotted_sentences
from tests.support import some_model


class Case(unittest.TestCase):
    def setUp(self):
        self.desk = new_desk()

    def state(self):
        desk = self.desk
        return (desk.standing(), desk.level_count, desk.last(), desk.journal(), desk.kept.lists())

    def refused(self, error, attribute, worth, call, *passed):
        """The call has to raise this error and to leave the desk as it was."""
        before = self.state()
        with self.assertRaises(error) as caught:
            call(*passed)
        if attribute:
            self.assertEqual(getattr(caught.exception, attribute), worth)
        self.assertEqual(self.state(), before)
        self.assertIs(self.desk.last(), before[2])

    def ask(self, *texts):
        """The side of the answer for some texts, which is held against the meanings and the rules."""
        desk = self.desk
        standing, levels = desk.standing(), desk.level_count
        answer = desk.ask(list(texts))
        self.assertIs(type(answer), Answer)
        sentences = standing + [parse(desk.bank, text) for text in texts]
        self.assertEqual((desk.standing(), desk.level_count), (standing, levels))
        self.assertIs(desk.last(), answer)
        self.assertEqual(desk.journal()[-1], ("ask", texts))
        return hold(self, desk.bank, sentences, answer)


class LevelsTest(Case):
    def test_at_first(self):
        desk = Desk()
        self.assertEqual((desk.standing(), desk.level_count, desk.last(), desk.journal()), ([], 1, None, []))
        self.assertEqual([type(each) for each in (desk.signature, desk.bank, desk.kept)], [Signature, Bank, Kept])
        self.assertIs(desk.bank.signature, desk.signature)
        self.assertEqual(len(desk.bank), 2)
        self.assertTrue(desk.ask().yes)

    def test_kept_clauses_with_a_limit_of_forty(self):
        kept = self.desk.kept
        for number in range(1, 50):
            kept.offer([("given", (number,), None)])
        self.assertEqual(len(kept.lists()), 40)

    def test_each_desk_has_its_own(self):
        other = new_desk()
        self.desk.claim("p")
        self.desk.push()
        self.assertEqual((other.standing(), other.level_count), ([], 1))
        self.assertIsNot(other.bank, self.desk.bank)
        self.assertIsNot(other.kept, self.desk.kept)

    def test_pushing_and_dropping(self):
        desk = self.desk
        p = desk.claim("p")
        self.assertIsNone(desk.push())
        q, r = desk.claim("q"), desk.claim("r")
        self.assertIsNone(desk.push())
        self.assertEqual((desk.level_count, desk.standing()), (3, [p, q, r]))
        again = desk.claim("p")
        self.assertEqual((again, desk.standing()), (p, [p, q, r, p]))
        self.assertIsNone(desk.drop())
        self.assertEqual((desk.level_count, desk.standing()), (2, [p, q, r]))
        self.assertEqual(desk.claim("(not p)"), desk.standing()[-1])
        self.assertFalse(self.ask())
        desk.drop()
        self.assertEqual((desk.level_count, desk.standing()), (1, [p]))
        self.assertTrue(self.ask())

    def test_the_first_level_is_not_dropped(self):
        self.refused(NoLevel, None, None, self.desk.drop)
        self.desk.claim("p")
        self.refused(NoLevel, None, None, self.desk.drop)
        self.desk.push()
        self.desk.drop()
        self.refused(NoLevel, None, None, self.desk.drop)
        self.assertEqual(len(self.desk.standing()), 1)

    def test_an_empty_level(self):
        self.desk.push()
        self.desk.push()
        self.desk.claim("p")
        self.assertEqual(self.desk.level_count, 3)
        self.desk.drop()
        self.assertEqual((self.desk.standing(), self.desk.level_count), ([], 2))

    def test_a_sentence_that_stands_several_times(self):
        p = self.desk.claim("p")
        self.desk.push()
        self.assertEqual([self.desk.claim("p"), self.desk.claim("p")], [p, p])
        self.assertEqual(self.desk.standing(), [p, p, p])
        self.assertFalse(self.ask("(not p)"))
        self.assertEqual(self.desk.last().sentences[0], p)
        self.assertEqual(len(self.desk.last().sentences), 2)
        self.desk.drop()
        self.assertFalse(self.ask("(not p)"))

    def test_claims_are_nodes_of_the_bank(self):
        node = self.desk.claim("(< x (+ y 1))")
        self.assertEqual(node, parse(self.desk.bank, "(< x (+ y 1))"))
        self.assertEqual(self.desk.bank.node(node)[0], "less")

    def test_returned_lists_are_new_ones(self):
        self.desk.claim("p")
        self.desk.standing().clear()
        self.desk.journal().clear()
        self.assertEqual(len(self.desk.standing()), 1)
        self.assertEqual(self.desk.journal()[-1], ("claim", "p"))


class ErrorsTest(Case):
    def setUp(self):
        super().setUp()
        self.desk.claim("(or p q)")
        self.desk.push()
        self.desk.claim("(< x y)")

    def test_texts_that_are_refused(self):
        desk = self.desk
        for ask in (lambda: None, desk.ask, lambda: desk.ask(["false"])):
            ask()
            for text, error, attribute, worth in REFUSED:
                self.refused(error, attribute, worth, desk.claim, text)
                self.refused(error, attribute, worth, desk.follows, text)
                for texts in ([text], ["p", text], (text, "p"), ["p", "q", text, "nobody"], [text, "(("]):
                    self.refused(error, attribute, worth, desk.ask, texts)
                    self.refused(error, attribute, worth, desk.trial, texts)

    def test_each_text_is_looked_at_before_the_next_is_read(self):
        for call in (self.desk.ask, self.desk.trial):
            self.refused(BadSort, "op", "call", call, ["x", "(("])
            self.refused(BadText, "place", 1, call, ["((", "x"])
            self.refused(UnknownName, "name", "nobody", call, ["p", "nobody", "x"])

    def test_declarations_that_are_refused(self):
        desk = self.desk
        for name, error in (("1", BadName), ("not", BadName), ("", BadName), ("a-b", BadName), ("p", NameTaken), ("thing", NameTaken)):
            self.refused(error, "name", name, desk.declare_sort, name)
            self.refused(error, "name", name, desk.declare_function, name, ["nothing"], "nothing")
        self.refused(UnknownName, "name", "nothing", desk.declare_function, "new", ["whole", "nothing", "truth"], "thing")
        self.refused(BadSort, "op", "call", desk.declare_function, "new", ["truth", "nothing"], "thing")
        self.refused(UnknownName, "name", "nothing", desk.declare_function, "new", ["whole"], "nothing")
        self.assertFalse(desk.signature.knows_function("new"))

    def test_asking_after_an_error(self):
        self.refused(BadSort, "op", "call", self.desk.trial, ["p", "x"])
        self.assertTrue(self.ask())
        self.assertTrue(self.ask("(not p)"))
        self.assertFalse(self.ask("(not p)", "(not q)"))


class AskingTest(Case):
    def test_texts_are_not_claimed(self):
        self.desk.claim("(< x y)")
        self.assertFalse(self.ask("(< y x)"))
        self.assertTrue(self.ask())
        self.assertTrue(self.ask("(< 5 x)", "(< y 8)"))
        self.assertFalse(self.ask("(< 5 x)", "(< y 7)"))

    def test_a_tuple_a_list_and_nothing(self):
        self.assertTrue(self.desk.ask().yes)
        self.assertTrue(self.desk.ask(("p", "q")).yes)
        self.assertTrue(self.desk.ask(texts=["p"]).yes)
        self.assertEqual(self.desk.journal()[-3:], [("ask", ()), ("ask", ("p", "q")), ("ask", ("p",))])

    def test_passed_lists_are_copied(self):
        texts = ["p", "q"]
        self.desk.ask(texts)
        self.desk.trial(texts)
        arguments = ["whole"]
        self.desk.declare_function("new", arguments, "whole")
        texts.append("r")
        arguments.clear()
        self.assertEqual(self.desk.journal()[-3:], [("ask", ("p", "q")), ("trial", ("p", "q")), ("function", "new", ("whole",), "whole")])
        self.assertEqual(self.desk.signature.arguments_of("new"), ("whole",))

    def test_the_set_of_sentences_decides(self):
        sides = {True: 0, False: 0}
        for seed in range(40):
            chance = random.Random(seed)
            texts = knotted_sentences(chance, 18)
            found = []
            for _ in range(3):
                self.desk = new_desk()
                self.desk.declare_function("u", [], "ratio")
                chance.shuffle(texts)
                rest = list(texts)
                while rest:
                    deed = chance.randrange(7)
                    if deed == 0:
                        self.desk.push()
                        for _ in range(chance.randrange(3)):
                            self.desk.claim(chance.choice(texts))
                        self.ask()
                        self.desk.drop()
                    elif deed == 1:
                        self.desk.push()
                    elif deed == 2:
                        self.ask(*chance.sample(texts, 2))
                    elif deed == 3 and chance.random() < 0.5:
                        self.desk.follows(chance.choice(texts))
                    else:
                        self.desk.claim(rest.pop())
                found.append(self.ask(*chance.sample(texts, chance.randrange(3))))
            self.assertEqual(len(set(found)), 1)
            sides[found[0]] += 1
        self.assertGreater(min(sides.values()), 8, sides)

    def test_after_dropping_as_before(self):
        desk = self.desk
        desk.claim("(<= x y)")
        self.assertTrue(self.ask())
        for _ in range(3):
            desk.push()
            desk.claim("(< y x)")
            self.assertFalse(self.ask())
            desk.drop()
            self.assertTrue(self.ask())


class FollowsTest(Case):
    def test_what_follows(self):
        desk = self.desk
        desk.claim("(<= x y)")
        desk.claim("(< y z)")
        for text, follows in (
            ("(< x z)", True), ("(<= (+ x 1) z)", True), ("(< x y)", False), ("(< z x)", False), ("true", True), ("false", False),
            ("(or p (not p))", True), ("p", False), ("(not (= x z))", True), ("(= (f x) (f x))", True), ("(= (f x) (f y))", False),
        ):
            standing = desk.standing()
            answer = desk.follows(text)
            self.assertIs(bool(answer), not follows, text)
            node = desk.bank.seek("not", None, (parse(desk.bank, text),))
            self.assertGreater(node, 0)
            hold(self, desk.bank, standing + [node], answer)
            self.assertEqual(answer.sentences, standing + [node])
            self.assertIs(desk.last(), answer)
            self.assertEqual(desk.standing(), standing)
            self.assertEqual(desk.journal()[-1], ("follows", text))

    def test_a_model_against_it(self):
        self.desk.claim("(<= x y)")
        self.assertTrue(self.desk.follows("(< x y)").yes)
        self.assertIs(self.desk.value("(< x y)"), False)
        self.assertIs(self.desk.value("(= x y)"), True)

    def test_from_sentences_that_cannot_stand(self):
        self.desk.claim("p")
        self.desk.claim("(not p)")
        self.assertFalse(self.desk.follows("q").yes)
        self.assertFalse(self.desk.follows("(not q)").yes)


class ValueTest(Case):
    def test_without_a_model(self):
        desk = self.desk
        # The text is not read then, whatever it is.
        for text in ("p", "x", "((", "nobody", ""):
            self.refused(NoAnswer, None, None, desk.value, text)
        desk.ask(["false"])
        nodes = len(desk.bank)
        for text in ("p", "x", "((", "nobody", "(f (f (f 99)))"):
            self.refused(NoAnswer, None, None, desk.value, text)
        self.assertEqual(len(desk.bank), nodes)
        desk.ask()
        self.assertIs(desk.value("p"), False)

    def test_values_of_each_sort(self):
        desk = self.desk
        desk.ask(["(= x 5)", "(= s (* 1/2 t))", "(= t 3/1)", "p", "(distinct a b)", "(= (f 5) -2)", "(= (h a b) b)"])
        for text, value in (
            ("x", 5), ("(+ x 2)", 7), ("s", (3, 2)), ("(+ s t 1/2)", (5, 1)), ("p", True), ("(not p)", False), ("(< x 3)", False), ("a", 0), ("b", 1),
            ("(h a b)", 1), ("(f x)", -2), ("(if p a b)", 0), ("(= (f x) -2)", True), ("17", 17), ("2/4", (1, 2)), ("true", True), ("(and)", True),
        ):
            found = desk.value(text)
            self.assertEqual((found, type(found)), (value, type(value)), text)

    def test_names_that_no_sentence_has(self):
        desk = self.desk
        desk.ask(["p"])
        for text, value in (("q", False), ("y", 0), ("t", (0, 1)), ("c", 0), ("(f 3)", 0), ("(g 1/2 3)", (0, 1)), ("(is_old a)", False)):
            found = desk.value(text)
            self.assertEqual((found, type(found)), (value, type(value)))
        desk.declare_function("later", ["thing"], "ratio")
        self.assertEqual(desk.value("(later a)"), (0, 1))
        desk.declare_sort("place")
        desk.declare_function("where", [], "place")
        self.assertEqual(desk.value("where"), 0)

    def test_claiming_pushing_and_dropping_change_no_answer(self):
        desk = self.desk
        desk.claim("(= x 4)")
        answer = desk.ask()
        desk.push()
        desk.claim("(= x 5)")
        desk.claim("false")
        self.assertIs(desk.last(), answer)
        self.assertEqual(desk.value("x"), 4)
        desk.drop()
        self.assertEqual((desk.last(), desk.value("x")), (answer, 4))
        desk.declare_function("other", [], "whole")
        self.assertIs(desk.last(), answer)

    def test_the_last_answer_counts(self):
        desk = self.desk
        desk.ask(["(= x 4)"])
        desk.trial(["(= x 6)"])
        self.assertEqual(desk.value("x"), 6)
        desk.follows("(not (= x 8))")
        self.assertEqual(desk.value("x"), 8)
        desk.follows("true")
        self.refused(NoAnswer, None, None, desk.value, "x")
        desk.trial(["(< x x)"])
        self.refused(NoAnswer, None, None, desk.value, "x")
        desk.ask(["(= x 9)"])
        self.assertEqual(desk.value("x"), 9)

    def test_values_are_meanings(self):
        desk = self.desk
        desk.claim("(or (< x y) (is_old a))")
        answer = desk.ask()
        for text in ("(< x y)", "(is_old a)", "(f (+ x 2))", "(h a a)"):
            self.assertEqual(desk.value(text), meaning(desk.bank, answer.model, parse(desk.bank, text)))

    def test_errors_of_reading(self):
        desk = self.desk
        desk.ask()
        for text, error, attribute, worth in (("", BadText, "place", 0), ("nobody", UnknownName, "name", "nobody"), ("(not x)", BadSort, "op", "not")):
            self.refused(error, attribute, worth, desk.value, text)

    def test_the_journal_does_not_tell_values(self):
        self.desk.ask()
        journal = self.desk.journal()
        self.desk.value("(f 7)")
        self.assertEqual(self.desk.journal(), journal)


class TrialTest(Case):
    def test_what_stays(self):
        desk = self.desk
        desk.claim("(< x y)")
        desk.push()
        standing = desk.standing()
        for texts, side in ((["(< y x)"], False), (("(< x 3)", "(< 3 y)"), True), ([], True), (["p", "(not p)", "q"], False), (["q", "q"], True)):
            answer = desk.trial(texts)
            self.assertIs(answer.yes, side)
            hold(self, desk.bank, standing + [parse(desk.bank, text) for text in texts], answer)
            self.assertIs(desk.last(), answer)
            self.assertEqual((desk.standing(), desk.level_count), (standing, 2))
            self.assertEqual(desk.journal()[-1], ("trial", tuple(texts)))
            self.assertEqual([deed[0] for deed in desk.journal()].count("claim"), 1)

    def test_as_if_pushed_claimed_asked_and_dropped(self):
        for seed in range(10):
            texts = knotted_sentences(random.Random(seed), 14)
            results = []
            for way in (0, 1):
                desk = new_desk()
                desk.declare_function("u", [], "ratio")
                for text in texts[:9]:
                    desk.claim(text)
                if way == 0:
                    answer = desk.trial(texts[9:])
                else:
                    desk.push()
                    for text in texts[9:]:
                        desk.claim(text)
                    answer = desk.ask()
                    desk.drop()
                results.append((answer.sentences, answer.paper, answer.core, answer.model and model_text(answer.model), list(desk.bank), desk.standing()))
            self.assertEqual(results[0], results[1])


class JournalTest(Case):
    def test_all_deeds(self):
        desk = Desk()
        desk.declare_sort("thing")
        desk.declare_function("p", (), "truth")
        desk.declare_function("f", ["thing", "whole"], "ratio")
        desk.push()
        desk.claim("p")
        desk.ask()
        desk.ask(["p", "(not p)"])
        desk.follows("p")
        desk.trial(["p"])
        desk.drop()
        deeds = [
            ("sort", "thing"), ("function", "p", (), "truth"), ("function", "f", ("thing", "whole"), "ratio"), ("push",), ("claim", "p"), ("ask", ()),
            ("ask", ("p", "(not p)")), ("follows", "p"), ("trial", ("p",)), ("drop",),
        ]
        self.assertEqual(desk.journal(), deeds)
        for call, passed in ((desk.drop, ()), (desk.claim, ("nobody",)), (desk.trial, (["p", "("],)), (desk.declare_sort, ("p",)), (desk.ask, (["5"],))):
            with self.assertRaises(Exception):
                call(*passed)
        self.assertEqual(desk.journal(), deeds)
        self.assertEqual((desk.standing(), desk.level_count, desk.last().yes), ([], 1, True))
        self.assertEqual(desk.journal(), deeds)

    def test_texts_stay_as_they_were(self):
        self.desk.claim("  ( or   p\nq ) ")
        self.desk.follows(" p ")
        self.assertEqual(self.desk.journal()[-2:], [("claim", "  ( or   p\nq ) "), ("follows", " p ")])


class SolvingTest(Case):
    def test_the_sentences_that_are_solved(self):
        desk = self.desk
        p, q = desk.claim("p"), desk.claim("q")
        answer = desk.ask(["r", "p", "(not q)"])
        r, no = parse(desk.bank, "r"), parse(desk.bank, "(not q)")
        self.assertEqual((answer.sentences, answer.core), ([p, q, r, no], [q, no]))
        self.assertEqual(solve(desk.bank, [p, q, r, no]).core, [q, no])

    def test_kept_clauses_are_offered_and_used(self):
        desk = self.desk
        texts = ["(distinct x y z)", "(<= 0 x)", "(< x 2)", "(<= 0 y)", "(< y 2)", "(<= 0 z)", "(< z 2)"]
        self.assertFalse(self.ask(*texts))
        self.assertGreater(len(desk.kept.lists()), 0)
        for text in texts:
            desk.claim(text)
        self.assertFalse(self.ask())
        self.assertFalse(self.ask("true"))

    def test_every_clause_is_true_under_every_model(self):
        # Point 2: what stands is assumed and never becomes a clause of its own.
        count = 0
        for seed in range(12):
            chance = random.Random(seed)
            self.desk = desk = new_desk()
            desk.declare_function("u", [], "ratio")
            clauses = []
            for text in knotted_sentences(chance, 14):
                if chance.random() < 0.2:
                    desk.push()
                desk.claim(text)
                answer = desk.trial(["(< x y)", "(is_old a)"]) if chance.random() < 0.5 else desk.ask()
                clauses += [clause for _, clause, _ in answer.paper or []]
            clauses += [clause for steps in desk.kept.lists() for _, clause, _ in steps]
            count += len(clauses)
            for _ in range(4):
                model = some_model(chance.randrange(10 ** 6), desk.signature)
                self.assertTrue(all(clause_holds(desk.bank, model, clause) for clause in set(clauses)))
        self.assertGreater(count, 200)


if __name__ == "__main__":
    unittest.main()
