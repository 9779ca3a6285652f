"""papersat/signrows.py: point 82."""

import itertools
import random
import unittest

from papersat.errors import BadSort, BadText, UnknownName
from papersat.reader import parse
from papersat.signrows import sign_rows
from tests.answers import hold
from tests.sentences import knotted_sentences
from tests.desks import REFUSED, new_desk


class SignRowsTest(unittest.TestCase):
    def setUp(self):
        self.desk = new_desk()

    def rows(self, *texts):
        """The tuples of signs with yes; all rows are held against point 82."""
        desk = self.desk
        before = (desk.standing(), desk.level_count, desk.last(), desk.journal())
        found = sign_rows(desk, list(texts))
        self.assertEqual((desk.standing(), desk.level_count, desk.last(), desk.journal()), before)
        self.assertIs(type(found), list)
        self.assertTrue(all(type(pair) is tuple and type(pair[0]) is tuple for pair in found))
        self.assertEqual([signs for signs, _ in found], list(itertools.product((False, True), repeat=len(texts))))
        sentences = [parse(desk.bank, text) for text in texts]
        for signs, answer in found:
            self.assertTrue(all(type(sign) is bool for sign in signs))
            chosen = [node if sign else desk.bank.seek("not", None, (node,)) for sign, node in zip(signs, sentences)]
            hold(self, desk.bank, desk.standing() + chosen, answer)
        return [signs for signs, answer in found if answer.yes]

    def test_no_texts(self):
        self.assertEqual(self.rows(), [()])
        self.desk.claim("p")
        self.assertEqual(self.rows(), [()])
        self.desk.claim("(not p)")
        self.assertEqual(self.rows(), [])
        self.assertEqual(len(sign_rows(self.desk, ())), 1)

    def test_one_text(self):
        self.assertEqual(self.rows("p"), [(False,), (True,)])
        self.assertEqual(self.rows("true"), [(True,)])
        self.assertEqual(self.rows("(and p (not p))"), [(False,)])
        self.desk.claim("(< x y)")
        self.assertEqual(self.rows("(< x y)"), [(True,)])
        self.assertEqual(self.rows("(< y x)"), [(False,)])
        self.assertEqual(self.rows("(< 3 x)"), [(False,), (True,)])

    def test_two_to_four_texts(self):
        self.desk.claim("(<= x y)")
        self.assertEqual(self.rows("(< x y)", "(= x y)"), [(False, True), (True, False)])
        self.assertEqual(self.rows("(< x 3)", "(< y 3)"), [(False, False), (True, False), (True, True)])
        self.assertEqual(self.rows("(< x 1)", "(< x 2)", "(< x 3)"), [(False, False, False), (False, False, True), (False, True, True), (True, True, True)])
        self.assertEqual(len(self.rows("p", "q", "r", "(is_old a)")), 16)
        self.assertEqual(self.rows("(= a b)", "(= b c)", "(= a c)", "(= (h a a) (h b b))"), [
            (False, False, False, False), (False, False, False, True), (False, False, True, False), (False, False, True, True),
            (False, True, False, False), (False, True, False, True), (True, False, False, True), (True, True, True, True),
        ])

    def test_five_texts(self):
        self.assertEqual(len(self.rows("p", "q", "r", "p", "q")), 8)

    def test_a_text_twice(self):
        self.assertEqual(self.rows("p", "p"), [(False, False), (True, True)])
        self.assertEqual(self.rows("p", "q", "p"), [(False, False, False), (False, True, False), (True, False, True), (True, True, True)])
        self.assertEqual(self.rows("p", "(not p)"), [(False, True), (True, False)])
        row = sign_rows(self.desk, ["p", "p"])[3][1]
        self.assertEqual(row.sentences, [parse(self.desk.bank, "p")])

    def test_a_standing_sentence(self):
        self.desk.claim("p")
        self.desk.push()
        self.desk.claim("(or (not p) q)")
        self.assertEqual(self.rows("p", "q"), [(True, True)])
        self.desk.drop()
        self.assertEqual(self.rows("p", "q"), [(True, False), (True, True)])

    def test_texts_that_are_refused(self):
        desk = self.desk
        desk.claim("p")
        answer = desk.ask()
        before = (desk.standing(), desk.level_count, desk.journal(), desk.kept.lists())
        for text, error, attribute, worth in REFUSED:
            for texts in ([text], ["p", text], (text, "p"), ["p", "q", text, "nobody"], [text, "(("]):
                with self.assertRaises(error) as caught:
                    sign_rows(desk, texts)
                self.assertEqual(getattr(caught.exception, attribute), worth)
        self.assertEqual((desk.standing(), desk.level_count, desk.journal(), desk.kept.lists()), before)
        self.assertIs(desk.last(), answer)
        for texts, error in ((["x", "(("], BadSort), (["((", "x"], BadText), (["nobody", "x"], UnknownName)):
            with self.assertRaises(error):
                sign_rows(desk, texts)

    def test_the_passed_list_stays(self):
        texts = ["p", "q"]
        sign_rows(self.desk, texts)
        self.assertEqual(texts, ["p", "q"])

    def test_exactly_the_combinations_of_the_models(self):
        # Over truth values alone all models can be written down.
        for seed in range(15):
            chance = random.Random(seed)
            self.desk = new_desk()
            texts = [f"({chance.choice(('or', 'and', 'imply', '='))} {chance.choice('pqr')} (not {chance.choice('pqr')}))" for _ in range(5)]
            self.desk.claim(texts[4])
            wanted = set()
            for values in itertools.product(("true", "false"), repeat=3):
                def truth(text):
                    for name, value in zip("pqr", values):
                        text = text.replace(f" {name}", f" {value}")
                    self.desk.ask()
                    return self.desk.value(text)

                if truth(texts[4]):
                    wanted.add(tuple(truth(text) for text in texts[:3]))
            self.assertEqual(self.rows(*texts[:3]), sorted(wanted))

    def test_by_chance(self):
        for seed in range(12):
            chance = random.Random(seed)
            self.desk = new_desk()
            self.desk.declare_function("u", [], "ratio")
            texts = knotted_sentences(chance, 14)
            for text in texts[:8]:
                self.desk.claim(text)
            some = self.rows(*texts[8:11])
            wider = self.rows(*texts[8:12])
            self.assertEqual(some, sorted({signs[:3] for signs in wider}))

    def test_kept_clauses_are_used(self):
        desk = self.desk
        for text in ("(distinct x y z)", "(<= 0 x)", "(< x 3)", "(<= 0 y)", "(< y 3)", "(<= 0 z)"):
            desk.claim(text)
        self.assertEqual(self.rows("(< z 3)", "(< z 2)", "(< z 1)", "(< z 0)")[-1], (True, True, True, False))
        self.assertGreater(len(desk.kept.lists()), 0)


if __name__ == "__main__":
    unittest.main()
