"""The tableau: columns, some of them free, and the nodes as sums of the free columns.

A column is a sum of nodes times integers. It has a number, the lesser the earlier it was made. There
are as many free columns as nodes. The line of a node or a column is a dict from free columns to
integers: the tableau's scale times the node is the sum of the free columns times these integers.
Scale and lines are, but for the sign, determinants of the integers that make up the free columns. So
no division leaves a rest, and the integers stay as short as they can be in general.
"""

from math import lcm

from papersat.nudges import NOTHING


class Tableau:
    """Columns with nudged values that always fit together."""

    def __init__(self):
        self._numbers = {}
        self._sums = []
        self._scale = 1
        self._lines = {}
        # From free columns to their values.
        self._free = {}
        # From nodes to pairs (p, t), which stand for the value (p, t, self._below).
        self._spots = {}
        self._below = 1

    def enter(self, sum_of_nodes):
        """The number of the column for a tuple of pairs of node and integer."""
        for node, _ in sum_of_nodes:
            if node not in self._lines:
                self._add_node(node)
        if sum_of_nodes not in self._numbers:
            self._add_column(sum_of_nodes)
        return self._numbers[sum_of_nodes]

    def is_free(self, column):
        """True if the column is free."""
        return column in self._free

    def value(self, column):
        """The value of a column."""
        p = t = 0
        for node, factor in self._sums[column]:
            p += factor * self._spots[node][0]
            t += factor * self._spots[node][1]
        return (p, t, self._below)

    def node_values(self):
        """The pairs of node and value, in ascending order of the nodes."""
        return [(node, (p, t, self._below)) for node, (p, t) in sorted(self._spots.items())]

    def scale(self):
        """The scale of the lines."""
        return self._scale

    def line(self, column):
        """The line of a column, without zeros."""
        total = {}
        for node, factor in self._sums[column]:
            for free, entry in self._lines[node].items():
                total[free] = total.get(free, 0) + factor * entry
        return {free: entry for free, entry in total.items() if entry != 0}

    def move(self, column, value):
        """Gives a free column a value; the others follow."""
        self._free[column] = value
        self._place_nodes()

    def exchange(self, column, free, value):
        """Makes a column with a value free in place of a free one that its line has."""
        line = self.line(column)
        pivot = line.pop(free)
        if pivot < 0:
            line = {each: -entry for each, entry in line.items()}
        for node in list(self._lines):
            entries = self._lines[node]
            share = entries.pop(free, 0)
            if share != 0 or abs(pivot) != self._scale:
                entries = _exchanged(entries, share, line, abs(pivot), self._scale)
            if share != 0:
                entries[column] = share if pivot > 0 else -share
            self._lines[node] = entries
        self._scale = abs(pivot)
        del self._free[free]
        self.move(column, value)

    def _add_node(self, node):
        column = self._add_column(((node, 1),))
        self._lines[node] = {column: self._scale}
        self._free[column] = NOTHING
        self._spots[node] = (0, 0)

    def _add_column(self, sum_of_nodes):
        column = len(self._sums)
        self._numbers[sum_of_nodes] = column
        self._sums.append(sum_of_nodes)
        return column

    def _place_nodes(self):
        """Works out the values of the nodes from those of the free columns."""
        common = 1
        for _, _, q in self._free.values():
            common = lcm(common, q)
        parts = {free: (p * (common // q), t * (common // q)) for free, (p, t, q) in self._free.items()}
        for node, entries in self._lines.items():
            p = t = 0
            for free, entry in entries.items():
                p += entry * parts[free][0]
                t += entry * parts[free][1]
            self._spots[node] = (p, t)
        self._below = common * self._scale


def _exchanged(entries, share, line, pivot, scale):
    """A node's line, without the column that was free, for the new scale `pivot`."""
    total = {each: pivot * entry for each, entry in entries.items()}
    if share != 0:
        for each, entry in line.items():
            total[each] = total.get(each, 0) - share * entry
    return {each: entry // scale for each, entry in total.items() if entry != 0}
