"""Greatest sums along roads of a graph, where they may grow without bound."""


def greatest_sums(starts, behind, weights):
    """A dict of all nodes to which roads from the starts come, and the greatest sum with which they come there.

    A road begins with sum 0 and adds the weight of each node that it leaves; behind: a dict of the nodes behind
    each node. Where sums grow without bound, None is told.
    """
    best = {node: 0 for node in starts}
    parents = {}
    layer = list(best)
    work = 0
    while len(layer) > 0:
        work += len(layer)
        layer = _raised(layer, best, parents, behind, weights)
        # Looking for rings costs as much as so many nodes, so it is done no more often than they are raised.
        if work > len(parents):
            _let_grow(_on_rings(parents), best, parents, behind)
            work = 0
    return best


def _raised(layer, best, parents, behind, weights):
    """Raises the sums behind all nodes of a layer; the nodes that were raised."""
    found = {}
    for node in layer:
        if best[node] is not None:
            total = best[node] + weights[node]
            for later in behind[node]:
                if later not in best or (best[later] is not None and best[later] < total):
                    best[later] = total
                    parents[later] = node
                    found[later] = True
    return list(found)


def _on_rings(parents):
    """One node of each ring of parents: as each node was raised by its parent, sums grow round a ring."""
    found = []
    walks = {}
    for number, start in enumerate(parents):
        node = start
        while node in parents and node not in walks:
            walks[node] = number
            node = parents[node]
        if node in walks and walks[node] == number:
            found.append(node)
    return found


def _let_grow(nodes, best, parents, behind):
    """Tells that sums have no bound at these nodes and at all to which roads lead from there."""
    left = list(nodes)
    while len(left) > 0:
        node = left.pop()
        if node not in best or best[node] is not None:
            best[node] = None
            left.extend(behind[node])
        if node in parents:
            del parents[node]
