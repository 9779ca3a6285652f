"""Differences of whole numbers: limits on the heights of places, heights for them or a ring of limits."""

from heapq import heappop, heappush


class Ways:
    """Limits `(x, y, k)`, each saying that the height of x minus the height of y is at most k."""

    def __init__(self):
        self._limits = []
        # The heights fit the first limits, as many as are settled.
        self._settled = 0
        self._heights = {0: 0}
        # From a place to the numbers of the settled limits of which it is the y.
        self._leaning = {0: []}

    def limit(self, x, y, k, label):
        """Adds a limit."""
        for place in (x, y):
            self._heights.setdefault(place, 0)
            self._leaning.setdefault(place, [])
        self._limits.append((x, y, k, label))

    def settle(self):
        """None if all limits can hold together, otherwise a ring: the list of its labels."""
        while self._settled < len(self._limits):
            ring = self._fall(self._settled)
            if ring is not None:
                return ring
            self._leaning[self._limits[self._settled][1]].append(self._settled)
            self._settled += 1
        return None

    def heights(self):
        """A dict from places to integers under which all limits hold; place 0 has the height 0."""
        ground = self._heights[0]
        return {place: self._heights[place] - ground for place in sorted(self._heights)}

    def limits(self):
        """How many limits stand."""
        return len(self._limits)

    def back(self, count):
        """Leaves the first `count` limits standing."""
        while len(self._limits) > count:
            y = self._limits.pop()[1]
            if self._settled > len(self._limits):
                self._leaning[y].pop()
                self._settled -= 1

    def _fall(self, number):
        """Lets places fall until one more limit holds; a ring if that cannot be."""
        x, y, k, label = self._limits[number]
        if x == y:
            return [label] if k < 0 else None
        fallen = {}
        causes = {}
        queue = []
        if self._heights[x] > self._heights[y] + k:
            queue.append((self._heights[y] + k - self._heights[x], x, number))
        while queue:
            # The place that falls the most is settled first; no place has to fall twice.
            fall, place, cause = heappop(queue)
            if place not in fallen:
                fallen[place] = self._heights[place] + fall
                causes[place] = cause
                for pull in self._pulls(place, fallen):
                    if pull[1] == y:
                        return self._ring(number, pull[2], causes)
                    heappush(queue, pull)
        self._heights.update(fallen)
        return None

    def _pulls(self, place, fallen):
        """The falls of other places that a fallen place makes fall, with these places and the limits."""
        pulls = []
        for number in self._leaning[place]:
            above, _, k, _ = self._limits[number]
            fall = fallen[place] + k - self._heights[above]
            if fall < 0 and above not in fallen:
                pulls.append((fall, above, number))
        return pulls

    def _ring(self, number, last, causes):
        """The labels of the new limit and of those that made places fall from its x to its y."""
        ring = [self._limits[number][3]]
        start = self._limits[number][0]
        cause = last
        while True:
            ring.append(self._limits[cause][3])
            place = self._limits[cause][1]
            if place == start:
                return ring
            cause = causes[place]
