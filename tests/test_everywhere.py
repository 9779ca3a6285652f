"""Points 1 to 4: what holds everywhere."""

import os
import subprocess
import sys
import unittest

ROOT = os.path.dirname(os.path.dirname(os.path.abspath(__file__)))

STAGE_ONE = """
from papersat.bank import Bank, copy_term, subterms
from papersat.forms import literal_form
from tests.support import new_bank, call
bank = new_bank()
parts = [call(bank, name) for name in ("t", "s", "u")]
total = bank.make("sum", None, parts)
most = bank.make("most", None, [total, bank.make("scale", (2, 3), [parts[1]])])
other = new_bank()
print(bank.signature.sorts(), bank.signature.functions(), list(bank), subterms(bank, [most]))
print(literal_form(bank, most), literal_form(bank, -most), copy_term(bank, most, other), list(other))
"""

STAGE_TWO = """
from papersat.clauses import gather, part_clauses
from papersat.meaning import meanings
from papersat.models import model_text, read_model
from papersat.printer import print_shared
from tests.support import some_model, some_terms
bank = some_terms(3, 120)
model = some_model(4, bank.signature)
nodes = gather(bank, [120, 117, 90])
print(nodes, list(bank), [part_clauses(bank, node) for node in nodes])
print(meanings(bank, model, nodes), [print_shared(bank, node) for node in nodes])
print(model_text(model) == model_text(read_model(bank.signature, model_text(model))), model_text(model))
"""

STAGE_THREE = """
import random
from papersat.listener import Forbidding
from papersat.log import Log
from papersat.search import Search
chance = random.Random(8)
log = Log()
nodes = list(range(1, 41))
for _ in range(170):
    chosen = sorted(chance.sample(nodes, 3))
    log.write("given", tuple(node * chance.choice((1, -1)) for node in chosen), None)
search = Search(log, nodes, list(range(100)), Forbidding(log, list(range(100, 170))))
for assumptions in ([], [3, -5], [7, 8, -9, 3]):
    print(search.ask(assumptions, record=True), search.learned(), search.sizes_record())
print(log.all_steps())
"""

STAGE_FOUR = """
import random
from papersat.joined import Joined
from papersat.log import Log
from papersat.meeting import meeting_pairs, question
from papersat.reader import parse
from papersat.search import Search
from tests.sentences import some_sentence
from tests.support import new_bank
for seed in range(12):
    chance = random.Random(seed)
    bank = new_bank()
    log = Log()
    sentences = [parse(bank, some_sentence(chance, 3)) for _ in range(8)]
    nodes, numbers = question(bank, log, sentences)
    joined = Joined(bank, log, nodes)
    truths = [node for node in nodes if bank.sort_of(node) == "truth"]
    search = Search(log, truths, numbers, joined)
    print(search.ask(sentences, record=True), search.sizes_record(), list(bank), meeting_pairs(bank, nodes))
    print(log.all_steps(), joined.classes.groups())
    if joined.fault() is None:
        print(joined.ways.heights(), joined.rows.point())
"""

STAGE_FIVE = """
import random
from papersat.checker import first_bad
from papersat.kept import Kept
from papersat.models import model_text
from papersat.papertext import read_paper, write_paper
from papersat.reader import parse
from papersat.solver import solve
from tests.sentences import knotted_sentences
from tests.support import new_bank
kept = Kept()
bank = new_bank()
for seed in range(8):
    sentences = [parse(bank, text) for text in knotted_sentences(random.Random(seed), 18)]
    answer = solve(bank, sentences, kept=kept)
    if answer.yes:
        print(model_text(answer.model))
    else:
        text = write_paper(bank, answer.paper)
        print(text, first_bad(*read_paper(bank.signature, text)))
    print(len(bank), kept.lists())
"""

STAGE_SIX = """
import random
from papersat.cores import least_core
from papersat.greatest import greatest
from papersat.models import model_text
from papersat.replaying import replay
from papersat.signrows import sign_rows
from tests.desks import new_desk
from tests.sentences import knotted_sentences
def told(answer):
    return (answer.sentences, answer.paper, answer.core, answer.model and model_text(answer.model))
for seed in range(4):
    desk = new_desk()
    desk.declare_function("u", [], "ratio")
    for text in knotted_sentences(random.Random(seed), 12):
        desk.claim(text)
        print(told(desk.ask()))
    print([told(answer) for answer in replay(desk.journal())[1]])
    print([(signs, told(answer)) for signs, answer in sign_rows(desk, ["(< x y)", "(= a b)"])])
    print(greatest(desk, "x", "(+ y 2)")[:2], greatest(desk, "(f x)", "(f y)")[:2])
    core = least_core(desk.bank, desk.standing() + [desk.bank.make("not", None, desk.standing()[:1])], kept=desk.kept)
    print(told(core[0]), [model_text(model) for model in core[1]], list(desk.bank), desk.kept.lists())
"""


def printed(program, seed):
    """What a program prints under a seed for the hashes of Python."""
    environment = dict(os.environ, PYTHONHASHSEED=str(seed), PYTHONPATH=ROOT)
    done = subprocess.run(
        [sys.executable, "-c", program], cwd=ROOT, env=environment, capture_output=True, text=True, check=True
    )
    return done.stdout


class SameResultsTest(unittest.TestCase):
    def check(self, program):
        first = printed(program, 0)
        self.assertGreater(len(first), 500)
        for seed in (1, 2, 12345):
            self.assertEqual(printed(program, seed), first)

    def test_bank_and_forms(self):
        self.check(STAGE_ONE)

    def test_texts_models_and_clauses(self):
        self.check(STAGE_TWO)

    def test_search(self):
        self.check(STAGE_THREE)

    def test_layers(self):
        self.check(STAGE_FOUR)

    def test_answers_and_papers(self):
        self.check(STAGE_FIVE)

    def test_desks(self):
        self.check(STAGE_SIX)
