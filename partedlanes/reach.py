"""What is come to along roads of a graph."""


def reached(starts, behind, barred):
    """A dict of all nodes that roads from the starts come to without passing barred ones.

    behind: for each node, by its number or as a dict, the nodes to which a road goes on from it.
    """
    found = {}
    left = list(starts)
    while len(left) > 0:
        node = left.pop()
        if node not in found and node not in barred:
            found[node] = True
            left.extend(behind[node])
    return found
