"""Classes: which terms have to be equal, since some are joined and equal parts give equal calls."""

from papersat.errors import BadNode


class Classes:
    """Points that are joined, with edges that tell why they are in one class."""

    def __init__(self, bank, points):
        ordered = sorted(set(points))
        self._calls = _calls_among(bank, ordered)
        self._roots = {point: point for point in ordered}
        self._members = {point: [point] for point in ordered}
        # From a root to the calls that have parts in its class.
        self._users = {point: [] for point in ordered}
        # From a point to the next point on its way to the top of its tree, and the label between.
        self._steps_up = {}
        # From the name of a function and the roots of its parts to a call.
        self._table = {}
        self._merges = []
        # For each join that stands, how many merges there were before it.
        self._marks = []
        for call in self._calls:
            self._table[self._key(call)] = call
            for part in self._calls[call][1]:
                self._users[part].append(call)

    def unite(self, a, b, label):
        """Joins two points."""
        self._refuse_others(a, b)
        self._marks.append(len(self._merges))
        waiting = [(a, b, label)]
        while waiting:
            x, y, why = waiting.pop()
            if self._roots[x] != self._roots[y]:
                waiting.extend(self._merge(x, y, why))

    def same(self, a, b):
        """True if the two points are in one class."""
        self._refuse_others(a, b)
        return self._roots[a] == self._roots[b]

    def path(self, a, b):
        """The list of the triples from one point to the other along edges, or None."""
        if not self.same(a, b):
            return None
        first = self._way_up(a)
        second = self._way_up(b)
        # The two ways have their ends in common, as far as both lead to the same points.
        while first and second and first[-1] == second[-1]:
            first.pop()
            second.pop()
        return first + [(y, x, label) for x, y, label in reversed(second)]

    def groups(self):
        """The list of the classes, each an ascending list, in ascending order of their least points."""
        return sorted([sorted(self._members[root]) for root in self._members if self._roots[root] == root])

    def joins(self):
        """How many joins stand."""
        return len(self._marks)

    def back(self, count):
        """Leaves the first `count` joins standing."""
        if count < len(self._marks):
            staying = self._marks[count]
            while len(self._merges) > staying:
                self._part_again()
            del self._marks[count:]

    def _refuse_others(self, a, b):
        for point in (a, b):
            if point not in self._roots:
                raise BadNode(point)

    def _key(self, call):
        name, parts = self._calls[call]
        return (name, tuple([self._roots[part] for part in parts]))

    def _way_up(self, point):
        """The triples from a point to the top of its tree."""
        way = []
        while point in self._steps_up:
            above, label = self._steps_up[point]
            way.append((point, above, label))
            point = above
        return way

    def _merge(self, a, b, label):
        """Adds an edge between two classes; the list of the calls that have to be joined now."""
        if len(self._members[self._roots[a]]) > len(self._members[self._roots[b]]):
            a, b = b, a
        leaving, staying = self._roots[a], self._roots[b]
        self._make_top(a)
        self._steps_up[a] = (b, label)
        for point in self._members[leaving]:
            self._roots[point] = staying
        keys = []
        equal_calls = []
        for call in self._users[leaving]:
            key = self._key(call)
            if key in self._table:
                equal_calls.append((call, self._table[key], 0))
            else:
                # The call keeps its earlier key, too, for the time after going back.
                self._table[key] = call
                keys.append(key)
        self._members[staying].extend(list(self._members[leaving]))
        self._users[staying].extend(list(self._users[leaving]))
        self._merges.append((leaving, staying, (a, b), keys))
        return equal_calls

    def _part_again(self):
        """Takes back the last merge."""
        leaving, staying, (a, b), keys = self._merges.pop()
        for key in keys:
            del self._table[key]
        _shorten(self._members[staying], self._members[leaving])
        _shorten(self._users[staying], self._users[leaving])
        for point in self._members[leaving]:
            self._roots[point] = leaving
        # Later merges may have turned the edge around.
        lower = a if self._steps_up.get(a, (0, 0))[0] == b else b
        del self._steps_up[lower]

    def _make_top(self, point):
        """Turns the edges on the way from a point to the top of its tree around."""
        for x, y, label in reversed(self._way_up(point)):
            self._steps_up[y] = (x, label)
        self._steps_up.pop(point, None)


def _shorten(longer, ending):
    """Takes as many items off the end of a list as another one has."""
    del longer[len(longer) - len(ending):]


def _calls_among(bank, points):
    """A dict from the points that are calls with parts to their functions and parts."""
    calls = {}
    for point in points:
        op, value, parts = bank.node(point)
        if op == "call" and parts:
            calls[point] = (value, parts)
    return calls
