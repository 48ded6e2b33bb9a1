"""Pairs: which rows two lanes of a plain program do together or apart."""

from partedlanes.errors import BadState
from partedlanes.graphs import Graph
from partedlanes.guards import ask_row
from partedlanes.states import is_shaped
from partedlanes.trails import shown_datas


class Pairs:
    """All pair states that two lanes of a program come to by a rule, with any data."""

    def __init__(self, program, rule):
        self.graph = Graph(program, rule)
        self.start = self.graph.start

    def __eq__(self, other):
        return (
            isinstance(other, Pairs)
            and self.graph.program == other.graph.program
            and self.graph.rule == other.graph.rule
        )

    def __len__(self):
        return len(self.graph.behind)

    def __contains__(self, state):
        return is_shaped(state) and state in self.graph.behind

    def _ask_state(self, state):
        if state not in self:
            raise BadState(state)

    def states(self):
        """All pair states, ascending."""
        return sorted(list(self.graph.behind))

    def steps(self, state):
        """The pair states to which one step can lead, ascending."""
        self._ask_state(state)
        return list(self.graph.steps(state))

    def does(self, state):
        """The row that is done next, or None."""
        self._ask_state(state)
        return self.graph.does(state)

    def are_together(self, row):
        """Whether two lanes can do a row together."""
        ask_row(self.graph.program, row)
        return any([state[4] == "both" for state in self._that_do(row)])

    def is_alone(self, row):
        """Whether a lane can do a row while another one is alive and does it not with it."""
        ask_row(self.graph.program, row)
        end = self.graph.program.end
        return any([state[4] != "both" and _other_row(state) != end for state in self._that_do(row)])

    def others(self, row):
        """The rows, or the end, at which another lane can be while one does a row, ascending."""
        ask_row(self.graph.program, row)
        return sorted(set([_other_row(state) for state in self._that_do(row)]))

    def _that_do(self, row):
        return [state for state in self.graph.behind if self.graph.does(state) == row]

    def shown(self, state):
        """Two data, and with how few steps a machine of these comes to a pair state."""
        self._ask_state(state)
        depth = self.graph.depths[state]
        one, other, _ = shown_datas([*self.graph.layers[:depth], [state]], self.graph)
        return (one, other, depth)


def _other_row(state):
    return state[0] if state[4] == "second" else state[2]
