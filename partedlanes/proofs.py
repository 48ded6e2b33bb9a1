"""Proofs: what the graph of two lanes shows, told as papers are."""

from partedlanes.graphs import stuck_rows
from partedlanes.trails import shown_datas


def shown_standing(graph):
    """None, or how a machine of two lanes stands behind the fewest steps: (data, data, steps)."""
    for depth, layer in enumerate(graph.layers):
        goals = [state for state in layer if len(stuck_rows(state)) > 0]
        if len(goals) > 0:
            one, other, _ = shown_datas([*graph.layers[:depth], goals], graph)
            return (one, other, depth)
    return None


def standing_paper(graph):
    """The paper that tells whether a machine can stand."""
    shown = shown_standing(graph)
    if shown is None:
        return ("goes", sorted(list(graph.behind)))
    one, other, steps = shown
    return ("stands", one.digits, other.digits, steps)


def paper_of_ties(ties):
    """The paper that tells whether the promise of a group operation is kept."""
    row = ties.bond.row
    if ties.kept:
        return ("kept", row, ties.told_bounds(), ties.told_strangers())
    kind, one, other, steps = ties.broken()
    return ("broken", row, kind, one.digits, other.digits, steps)
