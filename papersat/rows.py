"""Order of fractions: bounds on linear forms, a point for them or a clash among them."""

from math import gcd, lcm

from papersat.nudges import compare_nudged, nudged_minus
from papersat.ratios import ONE, ZERO, compare, over, ratio
from papersat.tableau import Tableau

LOWER = -1
UPPER = 1


class Rows:
    """Bounds, each saying that a form is at most zero or below zero."""

    def __init__(self):
        self._tableau = Tableau()
        # From (column, LOWER or UPPER) to the tightest limit: (nudged value, label, size of the factor).
        self._limits = {}
        # For each bound that stands the place and the earlier limit that it replaced, or None.
        self._changes = []
        # The labels of the bounds without rows that do not hold.
        self._broken = []
        # All columns that are outside of a limit are among these.
        self._doubtful = {}

    def bound(self, form, strict, label):
        """Adds a bound."""
        constant, rows = form
        if rows:
            change = self._narrow(constant, rows, strict, label)
        else:
            change = self._note_constant(constant, strict, label)
        self._changes.append(change)

    def settle(self):
        """None if all bounds can hold together, otherwise a clash: pairs of label and weight."""
        if self._broken:
            return [(self._broken[0], ONE)]
        clash = self._crossing()
        if clash is None:
            self._pull_in()
            clash = self._repair()
        if clash is None:
            self._doubtful = {}
        return clash

    def point(self):
        """A dict from nodes to ratios under which all bounds hold."""
        small = self._small_number()
        return {
            node: ratio(p * small[1] + t * small[0], q * small[1])
            for node, (p, t, q) in self._tableau.node_values()
        }

    def bounds(self):
        """How many bounds stand."""
        return len(self._changes)

    def back(self, count):
        """Leaves the first `count` bounds standing."""
        while len(self._changes) > count:
            change = self._changes.pop()
            if change == "broken":
                self._broken.pop()
            elif change is not None:
                self._undo(change)

    def _note_constant(self, constant, strict, label):
        sign = compare(constant, ZERO)
        if sign < 0 or sign == 0 and not strict:
            return None
        self._broken.append(label)
        return "broken"

    def _narrow(self, constant, rows, strict, label):
        """Gives a column a limit, unless it has one as tight."""
        factor, sum_of_nodes = _as_multiple(rows)
        column = self._tableau.enter(sum_of_nodes)
        side = UPPER if factor[0] > 0 else LOWER
        p, q = over(constant, factor)
        value = (-p, -side if strict else 0, q)
        earlier = self._limits.get((column, side))
        if earlier is not None and side * compare_nudged(value, earlier[0]) >= 0:
            return None
        self._limits[(column, side)] = (value, label, (abs(factor[0]), factor[1]))
        self._doubtful[column] = True
        return ((column, side), earlier)

    def _undo(self, change):
        place, earlier = change
        if earlier is None:
            del self._limits[place]
        else:
            self._limits[place] = earlier

    def _doubt_all(self):
        self._doubtful = {column: True for column, _ in self._limits}

    def _crossing(self):
        """The clash of a lower limit above the upper limit of its column, or None."""
        for column in self._doubtful:
            lower = self._limits.get((column, LOWER))
            upper = self._limits.get((column, UPPER))
            if lower is not None and upper is not None and compare_nudged(lower[0], upper[0]) > 0:
                return _clash([(lower, ONE), (upper, ONE)])
        return None

    def _pull_in(self):
        """Moves the free columns that are outside of a limit to that limit."""
        has_moved = False
        for column in self._doubtful:
            side = self._side_outside(column) if self._tableau.is_free(column) else 0
            if side != 0:
                self._tableau.move(column, self._limits[(column, side)][0])
                has_moved = True
        if has_moved:
            self._doubt_all()

    def _side_outside(self, column):
        """The side on which the column is outside of its limit, or 0."""
        value = self._tableau.value(column)
        for side in (LOWER, UPPER):
            limit = self._limits.get((column, side))
            if limit is not None and side * compare_nudged(value, limit[0]) > 0:
                return side
        return 0

    def _repair(self):
        """Moves the columns that are not free into their limits; a clash if that cannot be."""
        column, side = self._first_outside()
        while side != 0:
            line = self._tableau.line(column)
            helpers = self._helpers(line, side)
            if not helpers:
                return self._clash_of_line(column, line, side)
            # The columns that were made first are taken, so that no arrangement comes twice.
            self._tableau.exchange(column, min(helpers), self._limits[(column, side)][0])
            self._doubt_all()
            column, side = self._first_outside()
        return None

    def _first_outside(self):
        """The column that was made first of those outside of a limit, and the side; or zeros."""
        for column in sorted(self._doubtful):
            side = self._side_outside(column)
            if side != 0:
                return (column, side)
        return (0, 0)

    def _helpers(self, line, side):
        """The free columns that can move a line back from this side within their own limits."""
        helpers = []
        for free, entry in line.items():
            way = -side if entry > 0 else side
            limit = self._limits.get((free, way))
            if limit is None or way * compare_nudged(self._tableau.value(free), limit[0]) < 0:
                helpers.append(free)
        return helpers

    def _clash_of_line(self, column, line, side):
        """The clash of the limit of a column and those of the free columns, which cannot help."""
        uses = [(self._limits[(column, side)], ONE)]
        for free, entry in line.items():
            way = -side if entry > 0 else side
            uses.append((self._limits[(free, way)], ratio(abs(entry), self._tableau.scale())))
        return _clash(uses)

    def _small_number(self):
        """A ratio for the small number of the nudged values, under which all limits hold."""
        small = ONE
        for (column, side), limit in self._limits.items():
            p, t, _ = nudged_minus(limit[0], self._tableau.value(column))
            # The room is p + t * s, for a lower limit its opposite; it must not become negative.
            if side * p > 0 and side * t < 0:
                room = ratio(abs(p), abs(t))
                small = room if compare(room, small) < 0 else small
        return small


def _as_multiple(rows):
    """A factor and pairs of node and integer, the first one positive, such that rows is the multiple."""
    below = 1
    above = 0
    for _, (p, q) in rows:
        below = lcm(below, q)
        above = gcd(above, p)
    # Each p / q is in lowest terms, so no prime divides all of these integers.
    sign = 1 if rows[0][1][0] > 0 else -1
    integers = [(node, sign * (p // above) * (below // q)) for node, (p, q) in rows]
    return (ratio(sign * above, below), tuple(integers))


def _clash(uses):
    """The pairs of label and weight for limits with the multiples of their columns."""
    pairs = [(label, over(multiple, size)) for (_, label, size), multiple in uses]
    return sorted(pairs, key=lambda pair: abs(pair[0]))
