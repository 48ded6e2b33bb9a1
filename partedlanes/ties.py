"""How two lanes are related for a group operation, and how unlike their counts are, at each pair state."""

from partedlanes.bonds import Bond, outer_ties
from partedlanes.reach import reached
from partedlanes.sums import greatest_sums
from partedlanes.trails import shown_datas


class Ties:
    """What holds for a group operation at the pair states of a graph; nodes are tuples (pair state, tie)."""

    def __init__(self, graph, row):
        self.graph = graph
        self.bond = Bond(graph.program, row)
        # A tie lasts along these ways: behind the anchor another one begins.
        lasting = {state: [] if self._renews(state) else graph.behind[state] for state in graph.behind}
        weights = {state: self.bond.weight(graph.does(state), state[4]) for state in graph.behind}
        starts = self._begins(True)
        self.greatest = greatest_sums(starts, lasting, weights)
        below = greatest_sums(starts, lasting, {state: -weights[state] for state in weights})
        self.least = {state: None if below[state] is None else -below[state] for state in below}
        self.strangers = reached(self._begins(False), lasting, [])
        self.kept = not any([self._can_break(state) for state in graph.behind])

    def _renews(self, state):
        return self.bond.renews(self.graph.does(state))

    def _begins(self, related):
        """The pair states in which the lanes begin to be related, or not to be."""
        found = [self.graph.start] if related == (self.bond.first_tie == 0) else []
        for state in self.graph.behind:
            if self._renews(state) and related == (state[4] == "both"):
                found.extend(self.graph.behind[state])
        return found

    def _can_break(self, state):
        """Whether the promise is broken by the step from a pair state, with some tie that can be there."""
        ties = [None] if state in self.strangers else []
        if state in self.least:
            ties.extend(outer_ties(self.least[state], self.greatest[state]))
        return any([self.breaks((state, tie)) is not None for tie in ties])

    def breaks(self, node):
        """How the step from a node breaks the promise, None if it does not."""
        state, tie = node
        return self.bond.breach(self.graph.does(state), state[4], tie)

    def steps(self, node):
        """The nodes behind one step."""
        state, tie = node
        behind = self.bond.tie_behind(self.graph.does(state), state[4], tie)
        return [(later, behind) for later in self.graph.behind[state]]

    def takes(self, node, later):
        """The values that lanes 0 and 1 take in a step."""
        return self.graph.takes(node[0], later[0])

    def told_bounds(self):
        """Tuples (state, least, greatest) of the ties that can be where lanes are related, ascending."""
        return [(state, self.least[state], self.greatest[state]) for state in sorted(list(self.least))]

    def told_strangers(self):
        """The pair states in which lanes can be and be not related, ascending."""
        return sorted(list(self.strangers))

    def broken(self):
        """How a machine of two lanes breaks a promise that is not kept: (kind, data, data, steps), the fewest steps."""
        start = (self.graph.start, self.bond.first_tie)
        known = {start: True}
        layers = [[start]]
        goals = self._that_break(layers[-1])
        while len(goals) == 0:
            layers.append(self._next_layer(layers[-1], known))
            goals = self._that_break(layers[-1])
        one, other, node = shown_datas([*layers[:-1], goals], self)
        return (self.breaks(node), one, other, len(layers))

    def _that_break(self, layer):
        return [node for node in layer if self.breaks(node) is not None]

    def _next_layer(self, layer, known):
        found = []
        for node in layer:
            for later in self.steps(node):
                if later not in known:
                    known[later] = True
                    found.append(later)
        return found


def are_kept(graph):
    """Whether two lanes break no promise at the pair states of a graph."""
    for row in graph.program.groups():
        if not Ties(graph, row).kept:
            return False
    return True
