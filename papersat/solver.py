"""Solving: a model for sentences that can be true together, otherwise a paper against them."""

from papersat.building import build_model
from papersat.joined import Joined
from papersat.log import Log
from papersat.meeting import question
from papersat.search import Search
from papersat.sentences import refuse_other_sorts
from papersat.trimming import trim

# Only the newest learned clauses are offered, since older ones would soon have to go.
MOST_OFFERS = 20


class Answer:
    """Yes with a model, or no with a paper and a core; what an answer does not have is None."""

    def __init__(self, sentences, model, paper):
        self.sentences = sentences
        self.yes = model is not None
        self.model = model
        self.paper = paper
        self.core = None if paper is None else _core(sentences, paper)

    def __bool__(self):
        return bool(self.yes)


def solve(bank, sentences, *, kept=None, restarts=12):
    """The answer for the sentences."""
    for node in sentences:
        refuse_other_sorts(bank, node, "truth")
    asked = list({node: True for node in sentences})
    log = Log()
    nodes, numbers = question(bank, log, asked)
    lists = [] if kept is None else kept.usable(nodes)
    numbers.extend([log.take(steps) for steps in lists])
    joined = Joined(bank, log, nodes)
    search = Search(log, _truths(bank, nodes), numbers, joined)
    kind, found = search.ask(asked, restarts=restarts)
    if kept is not None:
        _offer_learned(kept, log, search.learned())
    if kind == "yes":
        return Answer(asked, build_model(bank, nodes, found, joined), None)
    return Answer(asked, None, trim(log.all_steps()[:found + 1]))


def _truths(bank, nodes):
    return [node for node in nodes if bank.sort_of(node) == "truth"]


def _core(sentences, paper):
    """The sentences whose negations are in the last clause of the paper."""
    last = paper[-1][1]
    return [sentence for sentence in sentences if -sentence in last]


def _offer_learned(kept, log, learned):
    steps = log.all_steps()
    for number in learned[-MOST_OFFERS:]:
        kept.offer(steps[:number + 1])
