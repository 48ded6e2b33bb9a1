"""Weaves: as few lanes as can do all that a machine does on a trek that tells crowds alone."""

from partedlanes.acts import classes_behind, first_class, next_row
from partedlanes.covers import Cover


class Weave:
    """A carrier that keeps which classes do each step, and with which of them lanes can do the next one.

    A class at a step is a node. A bunch is a dict of classes and the nodes that lanes of these classes come from.
    """

    def __init__(self, plot):
        self.plot = plot
        self.bunches = [{first_class(plot.program): []}]
        self.kinds = []
        self.places = []
        self.behind = []

    def _visited(self, bunch, row):
        """New nodes for all classes of a bunch that does a row, as a dict."""
        word = self.plot.program.rows[row]
        place = self.plot.program.places[word[1]] if word[0] == "take" else None
        made = {}
        for kind, nodes in bunch.items():
            made[kind] = len(self.kinds)
            for node in nodes:
                self.behind[node].append(made[kind])
            self.kinds.append(kind)
            self.places.append(place)
            self.behind.append([])
        return made

    def do(self, scene, code):
        """The top bunch does its row."""
        bunch = self.bunches.pop()
        if self.plot.is_open(scene):
            self.bunches.append(self._shown(bunch, -1 - scene[0], code))
            return
        made = self._visited(bunch, scene[0])
        kinds = list(bunch)
        later = classes_behind(self.plot.program, scene[0], kinds, (0,) * len(kinds))
        behind = {}
        for kind, changed in zip(kinds, later):
            behind[changed] = [*behind.get(changed, []), made[kind]]
        self.bunches.append(behind if code > 0 else {})

    def _shown(self, bunch, row, code):
        """The bunch behind a take; ahead of it stands for each class what would be there if 0 were taken."""
        program = self.plot.program
        kinds = self.plot.crowds.crowd_of(code)
        zeros = classes_behind(program, row, kinds, (0,) * len(kinds))
        return {kind: bunch[zero] for kind, zero in zip(kinds, zeros)}

    def part(self, scene):
        """The top bunch does its branch and parts."""
        made = self._visited(self.bunches.pop(), scene[0])
        here, there = {}, {}
        for kind, node in made.items():
            later = next_row(self.plot.program, scene[0], kind)
            if later != self.plot.end:
                arm = here if later == scene[0] + 1 else there
                arm[kind] = [node]
        self.bunches += [there, here]

    def swap(self):
        """The two bunches on top change their places."""
        top, below = self.bunches.pop(), self.bunches.pop()
        self.bunches += [top, below]

    def rejoin(self):
        """The two bunches on top become one."""
        one, other = self.bunches.pop(), self.bunches.pop()
        kinds = [*one, *[kind for kind in other if kind not in one]]
        self.bunches.append({kind: [*one.get(kind, []), *other.get(kind, [])] for kind in kinds})

    def visit(self, row):
        """The top bunch comes to a row that it may do or not; all its classes have to be there."""
        self._visited(self.bunches[-1], row)

    def takings(self):
        """What each of the lanes takes: lists of values, one for each lane."""
        last = {}
        for bunch in self.bunches:
            for kind, nodes in bunch.items():
                for node in nodes:
                    last.setdefault(node, kind)
        return [self._takings_along(road, last) for road in Cover(self.behind).roads()]

    def _takings_along(self, road, last):
        found = []
        for place, node in enumerate(road):
            at = self.places[node]
            if at is not None:
                more = place + 1 < len(road)
                kind = self.kinds[road[place + 1]] if more else last.get(node)
                found.append(0 if kind is None else kind[at])
        return found
