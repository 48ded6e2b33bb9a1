"""Countdowns: how many steps are left at most, where no lanes ever part."""

from partedlanes.sketches import FIRST


class Countdown:
    """The lengths of the scenes of a sketch without arms.

    `falls` is a dict of rows with lists of tuples (length, set): these crowds have just this length there. `ever` is
    one of rows with the crowds from which lanes can go on for ever; `endless` tells if there are some.
    """

    def __init__(self, sketch):
        self.sketch = sketch
        self.sieve = sketch.sieve
        self.end = sketch.end
        self.falls = {index: [] for index in sketch.trunk}
        self.ever = {index: sketch.trunk[index] for index in sketch.trunk}
        leading = self._leading()
        length = 1
        rows = list(self.ever)
        while len(rows) > 0:
            fallen = self._fallen(rows)
            for index in fallen:
                self.falls[index].append((length, fallen[index]))
                self.ever[index] = self.ever[index] ^ fallen[index]
            rows = list({row: True for index in fallen for row in leading[index]})
            length += 1
        self.endless = any([self.ever[index] > 0 for index in self.ever])
        self.greatest = None if self.endless else self.length((0, self.end, FIRST, False))
        self.wait = None if self.endless else 0

    def _leading(self):
        """For each row those that lead to it."""
        found = {index: [] for index in self.ever}
        for index in self.ever:
            for later in self.sketch.program.ways(index):
                if later in found:
                    found[later].append(index)
        return found

    def _fallen(self, rows):
        """Of some rows, those crowds from which so many steps as were counted lead to none that can do one more."""
        found = {index: self.ever[index] & ~self.sieve.before(index, self.ever) for index in rows}
        return {index: found[index] for index in found if found[index] > 0}

    def length(self, scene):
        """The length of a scene."""
        index, _, code, _ = scene
        return [length for length, some in self.falls[index] if (some >> code) & 1 == 1][0]

    def numbers_of(self, scene):
        """Tuples (number of a crowd, number of steps) of the arrivals of a scene: all lanes end."""
        return [(0, self.length(scene))]

    def ring(self):
        """Scenes each of which leads to the next one, the last one to the first, if there is such a ring."""
        row = [index for index in self.ever if self.ever[index] > 0][0]
        road = [(row, self.sieve.smallest(self.ever[row]))]
        while road[-1] not in road[:-1]:
            road.append(self._step(road[-1], None))
        return [(row, self.end, code, False) for row, code in road[road.index(road[-1]) + 1:]]

    def _step(self, place, left):
        """A place behind one step, a row and the number of a crowd, from which so many steps are left, or for ever."""
        index, code = place
        for later, some in self.sieve.onward(index, 1 << code):
            long = some & self._with_left(later, left) if some > 0 and later < self.end else 0
            if long > 0:
                return (later, self.sieve.smallest(long))
        return (self.end, 0)

    def _with_left(self, index, left):
        """The set of the crowds at a row from which at least so many steps are left, or, if it is None, for ever."""
        if left is None:
            return self.ever[index]
        return sum([some for length, some in self.falls[index] if length >= left])

    def way_to_most(self):
        """How a machine does as many steps as any: a list of tuples (row, number of a crowd), as far as the end."""
        way = [(0, FIRST)]
        while len(way) < self.greatest:
            way.append(self._step(way[-1], self.greatest - len(way)))
        return [*way, (self.end, 0)]
