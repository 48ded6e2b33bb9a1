"""How two lanes are related for a group operation, and how unlike their counts are, at each pair state."""

from partedlanes.reach import reached
from partedlanes.sums import greatest_sums
from partedlanes.trails import shown_datas


class Ties:
    """What holds for a group operation at the pair states of a graph.

    A tie is the count of lane 0 less that of lane 1 where they are related, None where they are not. Nodes are
    tuples (pair state, tie).
    """

    def __init__(self, graph, row):
        self.graph = graph
        self.row = row
        self.anchor = graph.program.rows[row][2]
        # A tie lasts along these ways: behind the anchor another one begins.
        lasting = {state: [] if self._is_anchor(state) else graph.behind[state] for state in graph.behind}
        weights = {state: self._weight(state) for state in graph.behind}
        starts = self._begins(True)
        self.greatest = greatest_sums(starts, lasting, weights)
        below = greatest_sums(starts, lasting, {state: -weights[state] for state in weights})
        self.least = {state: None if below[state] is None else -below[state] for state in below}
        self.strangers = reached(self._begins(False), lasting, [])
        self.kept = not any([self._can_break(state) for state in graph.behind])

    def _is_anchor(self, state):
        return self.anchor is not None and self.graph.does(state) == self.anchor

    def _begins(self, related):
        """The pair states in which the lanes begin to be related, or not to be."""
        found = [self.graph.start] if related == (self.anchor is None) else []
        for state in self.graph.behind:
            if self._is_anchor(state) and related == (state[4] == "both"):
                found.extend(self.graph.behind[state])
        return found

    def _weight(self, state):
        """By how much the step from a pair state changes a tie that lasts."""
        if self.graph.does(state) != self.row or state[4] == "both":
            return 0
        return 1 if state[4] == "first" else -1

    def _can_break(self, state):
        """Whether the promise is broken by the step from a pair state, with some tie that can be there."""
        ties = [None] if state in self.strangers else []
        if state in self.least:
            # Without a bound ties grow beyond any number, so 1 and -1 do as well.
            ties.append(-1 if self.least[state] is None else self.least[state])
            ties.append(1 if self.greatest[state] is None else self.greatest[state])
        return any([self.breaks((state, tie)) is not None for tie in ties])

    def breaks(self, node):
        """How the step from a node breaks the promise, None if it does not."""
        state, tie = node
        if self.graph.does(state) != self.row:
            return None
        if state[4] == "both":
            return None if tie == 0 else "stranger"
        if tie is None:
            return None
        ahead = tie if state[4] == "first" else -tie
        return "missed" if ahead < 0 else None

    def steps(self, node):
        """The nodes behind one step."""
        state, tie = node
        if self._is_anchor(state):
            tie = 0 if state[4] == "both" else None
        elif tie is not None:
            tie += self._weight(state)
        return [(later, tie) for later in self.graph.behind[state]]

    def takes(self, node, later):
        """The values that lanes 0 and 1 take in a step."""
        return self.graph.takes(node[0], later[0])

    def broken(self):
        """How a machine of two lanes breaks a promise that is not kept: (kind, data, data, steps), the fewest steps."""
        start = (self.graph.start, 0 if self.anchor is None else None)
        known = {start: True}
        layers = [[start]]
        goals = self._that_break(layers[-1])
        while len(goals) == 0:
            layers.append(self._next_layer(layers[-1], known))
            goals = self._that_break(layers[-1])
        one, other, node = shown_datas([*layers[:-1], goals], self)
        return (self.breaks(node), one, other, len(layers))

    def _that_break(self, layer):
        return [node for node in layer if self.breaks(node) is not None]

    def _next_layer(self, layer, known):
        found = []
        for node in layer:
            for later in self.steps(node):
                if later not in known:
                    known[later] = True
                    found.append(later)
        return found
