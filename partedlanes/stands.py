"""Meetings that stand, in machines of plain programs."""

from partedlanes.graphs import Graph, stuck_rows
from partedlanes.trails import shown_datas


def stands(program, rule):
    """None, or how a machine of two lanes stands behind the fewest steps: (data, data, steps)."""
    graph = Graph(program, rule)
    for depth, layer in enumerate(graph.layers):
        goals = [state for state in layer if len(stuck_rows(state)) > 0]
        if len(goals) > 0:
            one, other, _ = shown_datas([*graph.layers[:depth], goals], graph)
            return (one, other, depth)
    return None


def standing_rows(program, rule):
    """The meetings that stand in machines of any number of lanes, ascending."""
    graph = Graph(program, rule)
    return sorted(set([row for state in graph.behind for row in stuck_rows(state)]))
