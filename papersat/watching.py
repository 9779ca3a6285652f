"""Watched clauses: finding the clauses that are false or due without looking at all of them."""


class Watching:
    """The clauses over a trail, each with two watched literals."""

    def __init__(self, trail):
        self._trail = trail
        self._clauses = []
        self._sources = []
        self._watched = []
        self._watchers = {}
        self._forgotten = {}
        # Clauses that were put and may be false or due without a literal that was put on since.
        self._fresh = []
        # The literals of the trail with lesser tickets have been looked at.
        self._seen = 0

    def put(self, clause, source):
        """Adds a clause and returns its number."""
        # The trail refuses literals over other nodes here, before anything is changed.
        watched = self._best_watched(clause)
        number = len(self._clauses)
        self._clauses.append(clause)
        self._sources.append(source)
        self._watched.append(watched)
        self._fresh.append(number)
        # A clause with one literal is put at depth 0, where that literal is true for good.
        if len(watched) == 2:
            for literal in watched:
                self._watchers.setdefault(literal, []).append(number)
        return number

    def clause(self, number):
        """The clause that was put."""
        return self._clauses[number]

    def source(self, number):
        """The source that was put."""
        return self._sources[number]

    def watched(self, number):
        """The tuple of the watched literals."""
        return self._watched[number]

    def propagate(self):
        """Forces what is due; the number of a false clause, or None."""
        clash = self._look_at_fresh()
        waiting = self._trail.put_since(self._seen)
        while waiting and clash is None:
            for ticket, literal in waiting:
                clash = self._visit(-literal)
                # After a clash the literal is looked at again, since its clauses may wait.
                if clash is not None:
                    return clash
                self._seen = ticket + 1
            waiting = self._trail.put_since(self._seen)
        return clash

    def forget(self, number):
        """Forgets a clause."""
        self._forgotten[number] = True

    def size(self):
        """How many clauses were put, forgotten ones counted."""
        return len(self._clauses)

    def _best_watched(self, clause):
        """Two literals that are not false as long as possible."""
        ranks = {literal: self._rank(literal) for literal in clause}
        # Of two false literals the one of the greater level becomes open first.
        ordered = sorted(clause, key=lambda literal: ranks[literal])
        return tuple(ordered[:2])

    def _rank(self, literal):
        if self._trail.value(literal) is not False:
            return (0, 0)
        return (1, -self._trail.level_of(literal))

    def _look_at_fresh(self):
        """Takes the fresh clauses in order; the number of a false one, or None."""
        fresh = self._fresh
        for place, number in enumerate(fresh):
            if number not in self._forgotten and self._is_false_or_forces(number):
                self._fresh = fresh[place:]
                return number
        self._fresh = []
        return None

    def _is_false_or_forces(self, number):
        """True if the clause is false; if it is due, its last literal is forced."""
        hopes = [literal for literal in self._clauses[number] if -literal not in self._trail]
        if len(hopes) == 1 and hopes[0] not in self._trail:
            self._trail.force(hopes[0], number)
        return not hopes

    def _visit(self, literal):
        """Looks at the clauses that watch a literal that is false; a false one of them, or None."""
        numbers = self._watchers.get(literal, [])
        staying = []
        clash = None
        place = 0
        while place < len(numbers) and clash is None:
            number = numbers[place]
            place += 1
            if number not in self._forgotten and not self._moves(number, literal):
                staying.append(number)
                clash = self._clash_or_force(number, literal)
        self._watchers[literal] = staying + numbers[place:]
        return clash

    def _other(self, number, literal):
        """The watched literal beside this one."""
        first, second = self._watched[number]
        return second if first == literal else first

    def _moves(self, number, literal):
        """True if the clause now watches another literal in place of this false one."""
        other = self._other(number, literal)
        if other in self._trail:
            return False
        for each in self._clauses[number]:
            if each != literal and each != other and -each not in self._trail:
                self._watched[number] = (other, each)
                self._watchers.setdefault(each, []).append(number)
                return True
        return False

    def _clash_or_force(self, number, literal):
        """The number of a clause with no hope but its other watched literal, if that is false, too."""
        other = self._other(number, literal)
        if -other in self._trail:
            return number
        if other not in self._trail:
            self._trail.force(other, number)
        return None
