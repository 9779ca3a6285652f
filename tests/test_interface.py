"""Every name of the interface is defined in the file under which the document lists it."""

import importlib
import inspect
import unittest

from papersat.bank import Bank
from papersat.classes import Classes
from papersat.desk import Desk
from papersat.joined import Joined
from papersat.kept import Kept
from papersat.listener import Forbidding, Listener
from papersat.log import Log
from papersat.rows import Rows
from papersat.signature import Signature
from papersat.solver import Answer
from papersat.ways import Ways

FUNCTIONS = {
    "words": ["is_name(text)", "is_whole_word(text)", "is_ratio_word(text)"],
    "ratios": [
        "ratio(p, q=1)", "plus(a, b)", "minus(a, b)", "times(a, b)", "over(a, b)", "opposite(a)", "compare(a, b)",
        "ratio_text(a)", "parse_ratio(text)",
    ],
    "forms": [
        "constant_form(a)", "base_form(node)", "form_plus(f, g)", "form_times(a, f)", "form_value(f, values)",
        "term_form(bank, node)", "literal_form(bank, literal)",
    ],
    "bank": ["subterms(bank, nodes)", "copy_term(bank, node, other)"],
    "scanner": ["scan(text)"],
    "reader": ["parse(bank, text)"],
    "printer": ["print_term(bank, node)", "print_shared(bank, node)", "text_length(bank, node)"],
    "models": ["model_text(model)", "read_model(signature, text)"],
    "meaning": [
        "meanings(bank, model, nodes)", "meaning(bank, model, node)", "literal_holds(bank, model, literal)",
        "clause_holds(bank, model, clause)",
    ],
    "clauses": [
        "clause_of(literals)", "resolve(clause, literal, other)", "extra_nodes(bank, node)", "part_clauses(bank, node)",
        "gather(bank, nodes)",
    ],
    "learning": ["learn(trail, watching, clause, source)", "final_clause(trail, watching, literal)"],
    "reasons": ["reason_step(bank, classes, log, a, b)", "clash_step(bank, classes, log)"],
    "meeting": ["meeting_pairs(bank, nodes)", "question(bank, log, sentences)"],
    "building": ["build_model(bank, nodes, row, joined)"],
    "rules": ["is_good_step(bank, steps, number)"],
    "checker": ["first_bad(bank, steps)", "check(bank, sentences, steps)"],
    "trimming": ["trim(steps)"],
    "papertext": ["write_paper(bank, steps)", "read_paper(signature, text)"],
    "solver": ["solve(bank, sentences, *, kept=None, restarts=12)"],
    "replaying": ["replay(deeds)"],
    "cores": ["least_core(bank, sentences, *, kept=None)"],
    "signrows": ["sign_rows(desk, texts)"],
    "greatest": ["greatest(desk, first, second)"],
}

LISTENER = ["told(self, literal)", "fault(self)", "back(self, count)", "told_count(self)"]

CLASSES = {
    ("signature", "Signature"): [
        "__init__(self)", "declare_sort(self, name)", "declare_function(self, name, arguments, result)", "sorts(self)",
        "functions(self)", "knows_sort(self, name)", "knows_function(self, name)", "arguments_of(self, name)",
        "result_of(self, name)",
    ],
    ("bank", "Bank"): [
        "__init__(self, signature)", "make(self, op, value, parts)", "seek(self, op, value, parts)", "node(self, number)",
        "sort_of(self, number)", "has(self, number)", "__len__(self)", "__iter__(self)",
    ],
    ("models", "Model"): [
        "__init__(self, signature)", "give(self, name, arguments, value)", "otherwise(self, name, value)",
        "look(self, name, arguments)", "rows_of(self, name)", "default_of(self, name)",
    ],
    ("log", "Log"): [
        "__init__(self)", "write(self, kind, clause, details)", "take(self, steps)", "step(self, number)",
        "clause_at(self, number)", "all_steps(self)", "__len__(self)", "__iter__(self)",
    ],
    ("listener", "Listener"): ["__init__(self)", *LISTENER],
    ("listener", "Forbidding"): ["__init__(self, log, numbers)", *LISTENER],
    ("trail", "Trail"): [
        "__init__(self, nodes)", "choose(self, literal)", "force(self, literal, reason)", "back(self, level)",
        "value(self, literal)", "level_of(self, literal)", "reason_of(self, literal)", "place_of(self, literal)",
        "literals(self)", "sizes(self)", "depth(self)", "__contains__(self, x)",
    ],
    ("watching", "Watching"): [
        "__init__(self, trail)", "put(self, clause, source)", "clause(self, number)", "source(self, number)",
        "watched(self, number)", "propagate(self)", "forget(self, number)", "size(self)",
    ],
    ("search", "Search"): [
        "__init__(self, log, nodes, numbers, listener)", "ask(self, assumptions, *, restarts=12, record=False)",
        "learned(self)", "sizes_record(self)",
    ],
    ("classes", "Classes"): [
        "__init__(self, bank, points)", "unite(self, a, b, label)", "same(self, a, b)", "path(self, a, b)",
        "groups(self)", "joins(self)", "back(self, count)",
    ],
    ("rows", "Rows"): [
        "__init__(self)", "bound(self, form, strict, label)", "settle(self)", "point(self)", "bounds(self)",
        "back(self, count)",
    ],
    ("ways", "Ways"): [
        "__init__(self)", "limit(self, x, y, k, label)", "settle(self)", "heights(self)", "limits(self)",
        "back(self, count)",
    ],
    ("joined", "Joined"): ["__init__(self, bank, log, nodes)", *LISTENER],
    ("kept", "Kept"): ["__init__(self, *, limit=40)", "offer(self, steps)", "lists(self)", "usable(self, nodes)"],
    ("solver", "Answer"): ["__bool__(self)"],
    ("desk", "Desk"): [
        "__init__(self)", "declare_sort(self, name)", "declare_function(self, name, arguments, result)", "claim(self, text)",
        "push(self)", "drop(self)", "standing(self)", "ask(self, texts=())", "follows(self, text)", "trial(self, texts)",
        "last(self)", "value(self, text)", "journal(self)",
    ],
}


def headline(function):
    return function.__name__ + str(inspect.signature(function))


class InterfaceTest(unittest.TestCase):
    def test_functions(self):
        for name, heads in FUNCTIONS.items():
            module = importlib.import_module("papersat." + name)
            for head in heads:
                function = vars(module)[head.split("(")[0]]
                self.assertEqual(function.__module__, module.__name__)
                self.assertEqual(headline(function), head)

    def test_classes(self):
        for (name, class_name), heads in CLASSES.items():
            module = importlib.import_module("papersat." + name)
            found = vars(module)[class_name]
            self.assertEqual(found.__module__, module.__name__)
            for head in heads:
                self.assertEqual(headline(vars(found)[head.split("(")[0]]), head)

    def test_names(self):
        self.assertIs(type(importlib.import_module("papersat.words").RESERVED), tuple)

    def test_attributes_of_joined(self):
        bank = Bank(Signature())
        joined = Joined(bank, Log(), [])
        self.assertEqual([type(each) for each in (joined.classes, joined.rows, joined.ways)], [Classes, Rows, Ways])
        self.assertTrue(issubclass(Joined, Listener) and issubclass(Forbidding, Listener))

    def test_attributes_of_desks_and_answers(self):
        desk = Desk()
        self.assertEqual([type(each) for each in (desk.signature, desk.bank, desk.kept)], [Signature, Bank, Kept])
        self.assertIsInstance(vars(Desk)["level_count"], property)
        self.assertEqual(desk.level_count, 1)
        for answer in (desk.ask(), desk.ask(["false"])):
            self.assertIs(type(answer), Answer)
            self.assertLessEqual({"sentences", "yes", "model", "paper", "core"}, set(vars(answer)))
