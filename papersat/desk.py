"""The desk: where a user declares, claims, takes back and asks."""

from papersat.bank import Bank
from papersat.errors import NoAnswer, NoLevel
from papersat.kept import Kept
from papersat.meaning import meaning
from papersat.reader import parse
from papersat.sentences import read_sentence, read_sentences
from papersat.signature import Signature
from papersat.solver import solve


class Desk:
    """Levels of sentences that stand, the last answer, and a journal of what was done."""

    def __init__(self):
        self.signature = Signature()
        self.bank = Bank(self.signature)
        self.kept = Kept(limit=40)
        self._levels = [[]]
        self._last = None
        self._journal = []

    def declare_sort(self, name):
        """Declares a sort."""
        self.signature.declare_sort(name)
        self._journal.append(("sort", name))

    def declare_function(self, name, arguments, result):
        """Declares a function from argument sorts to a result sort."""
        self.signature.declare_function(name, arguments, result)
        self._journal.append(("function", name, tuple(arguments), result))

    def claim(self, text):
        """Adds a sentence to the newest level and returns its node."""
        sentence = read_sentence(self.bank, text)
        self._levels[-1].append(sentence)
        self._journal.append(("claim", text))
        return sentence

    def push(self):
        """Opens a new level."""
        self._levels.append([])
        self._journal.append(("push",))

    def drop(self):
        """Removes the newest level with its sentences."""
        if len(self._levels) == 1:
            raise NoLevel()
        self._levels.pop()
        self._journal.append(("drop",))

    @property
    def level_count(self):
        """The number of levels."""
        return len(self._levels)

    def standing(self):
        """The list of the sentences of all levels, in the order of claiming."""
        return [sentence for level in self._levels for sentence in level]

    def ask(self, texts=()):
        """The answer for the standing sentences followed by those of the texts."""
        answer = self._solve_with(read_sentences(self.bank, texts))
        self._journal.append(("ask", tuple(texts)))
        return answer

    def follows(self, text):
        """The answer for the standing sentences and the negation; it is no if the sentence follows."""
        sentence = read_sentence(self.bank, text)
        answer = self._solve_with([self.bank.make("not", None, (sentence,))])
        self._journal.append(("follows", text))
        return answer

    def trial(self, texts):
        """The answer for the standing sentences and those of the texts, claimed for this asking alone."""
        # A level that is pushed for the asking and dropped at once leaves nothing behind.
        answer = self._solve_with(read_sentences(self.bank, texts))
        self._journal.append(("trial", tuple(texts)))
        return answer

    def last(self):
        """The last answer, or None."""
        return self._last

    def value(self, text):
        """The meaning of a text under the model of the last answer."""
        if self._last is None or not self._last.yes:
            raise NoAnswer()
        return meaning(self.bank, self._last.model, parse(self.bank, text))

    def journal(self):
        """The list of the deeds so far."""
        return list(self._journal)

    def _solve_with(self, sentences):
        self._last = solve(self.bank, self.standing() + sentences, kept=self.kept)
        return self._last
