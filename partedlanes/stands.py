"""Meetings that stand, in machines of plain programs."""

from partedlanes.graphs import Graph, stuck_rows
from partedlanes.proofs import shown_standing


def stands(program, rule):
    """None, or how a machine of two lanes stands behind the fewest steps: (data, data, steps)."""
    return shown_standing(Graph(program, rule))


def standing_rows(program, rule):
    """The meetings that stand in machines of any number of lanes, ascending."""
    graph = Graph(program, rule)
    return sorted(set([row for state in graph.behind for row in stuck_rows(state)]))
