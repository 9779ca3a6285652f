"""The search: a row that agrees with clauses, assumptions and a listener, or a step that says no."""

from papersat.choosing import Chooser
from papersat.errors import BadLiteral
from papersat.learning import empty_details, final_clause, learn
from papersat.trail import Trail
from papersat.watching import Watching

FIRST_PATIENCE = 50
FIRST_ROOM = 500


class Search:
    """Answers which assumptions can hold together with clauses and without a fault of a listener."""

    def __init__(self, log, nodes, numbers, listener):
        self._log = log
        self._listener = listener
        self._numbers = list(numbers)
        self._nodes = sorted(set(nodes))
        self._chooser = Chooser(self._nodes, [log.clause_at(number) for number in self._numbers])
        self._learned = []
        self._entries = []
        # The learned clauses that were not forgotten: the steps, and their numbers in the watcher.
        self._held = {}
        self._room = FIRST_ROOM
        self._clashes = 0
        self._heard = 0
        self._trail = Trail(self._nodes)
        self._watching = Watching(self._trail)

    def ask(self, assumptions, *, restarts=12, record=False):
        """`("yes", row)` or `("no", number of a step)`."""
        for literal in assumptions:
            if abs(literal) not in self._nodes:
                raise BadLiteral(literal)
        self._start_anew()
        left = restarts
        patience = FIRST_PATIENCE
        while True:
            number = self._settle_clashes()
            if number is not None:
                return ("no", number)
            self._note(self._trail.sizes(), record)
            literal = self._wanted(assumptions)
            if literal is None:
                return ("yes", sorted(self._trail.literals(), key=abs))
            if -literal in self._trail:
                return ("no", self._final_step(literal))
            if left > 0 and self._clashes >= patience and self._trail.depth() > 0:
                left -= 1
                patience += patience // 2
                self._restart(record)
            else:
                self._make_room()
                self._trail.choose(literal)

    def learned(self):
        """The list of the numbers of the steps of all learned clauses."""
        return list(self._learned)

    def sizes_record(self):
        """The record of the last call of `ask`."""
        return [list(sizes) for sizes in self._entries]

    def _start_anew(self):
        """An empty trail, with the clauses and the learned ones that were not forgotten."""
        self._entries = []
        self._clashes = 0
        self._heard = 0
        self._listener.back(0)
        self._trail = Trail(self._nodes)
        self._watching = Watching(self._trail)
        for number in self._numbers:
            self._watching.put(self._log.clause_at(number), number)
        for number in list(self._held):
            self._held[number] = self._watching.put(self._log.clause_at(number), number)

    def _note(self, sizes, record):
        if record:
            self._entries.append(sizes)

    def _settle_clashes(self):
        """Propagates and learns until there is no clash; the step for the empty clause, or None."""
        clash = self._find_clash()
        while clash is not None:
            clause, source = clash
            deepest = max([self._trail.level_of(literal) for literal in clause], default=0)
            if deepest == 0:
                details = empty_details(self._trail, self._watching, clause, source)
                return self._write_unless_there((), details)
            self._go_back(deepest)
            self._learn_from(clause, source)
            clash = self._find_clash()
        return None

    def _find_clash(self):
        """A clause with false literals alone and its step, or None."""
        number = self._watching.propagate()
        if number is not None:
            return (self._watching.clause(number), self._watching.source(number))
        news = self._trail.literals()[self._heard:]
        for literal in news:
            self._listener.told(literal)
        self._heard += len(news)
        fault = self._listener.fault()
        return None if fault is None else (self._log.clause_at(fault), fault)

    def _learn_from(self, clause, source):
        learned, level, details = learn(self._trail, self._watching, clause, source)
        number = self._log.write("resolve", learned, details)
        self._learned.append(number)
        self._clashes += 1
        self._chooser.credit(list(learned) + [literal for literal, _ in details[1]])
        self._go_back(level)
        self._held[number] = self._watching.put(learned, number)

    def _go_back(self, level):
        """Takes the trail and the listener back to a level."""
        if level < self._trail.depth():
            staying = sum(self._trail.sizes()[:level + 1])
            self._chooser.remember(self._trail.literals()[staying:])
            self._trail.back(level)
            self._listener.back(staying)
            self._heard = min(self._heard, staying)

    def _wanted(self, assumptions):
        """The first assumption that is not true, or an open literal, or None."""
        for literal in assumptions:
            if literal not in self._trail:
                return literal
        return self._chooser.pick(self._trail)

    def _final_step(self, literal):
        clause, details = final_clause(self._trail, self._watching, literal)
        return self._write_unless_there(clause, details)

    def _write_unless_there(self, clause, details):
        """The number of a resolve step; without anything to resolve it is the first step itself."""
        first, strikes = details
        return self._log.write("resolve", clause, details) if strikes else first

    def _restart(self, record):
        self._clashes = 0
        self._note([], record)
        self._go_back(0)

    def _make_room(self):
        """Forgets long learned clauses once there are many."""
        if len(self._held) < self._room:
            return
        self._room += self._room // 10
        used = {self._trail.reason_of(literal): True for literal in self._trail.literals()}
        by_length = sorted(self._held, key=lambda number: len(self._log.clause_at(number)))
        for number in by_length[len(by_length) // 2:]:
            if self._held[number] not in used and len(self._log.clause_at(number)) > 2:
                self._watching.forget(self._held[number])
                del self._held[number]
