"""Covers: the fewest roads through a graph without rings that together come through all its nodes."""


class Cover:
    """Roads from node 0 on, as far as ways go on, that together come through all nodes.

    behind: for each node a list of the nodes to which a way goes on, all with greater numbers; there are ways from node
    0 to all others. `through` tells how many of the roads come through each node, `along` how many go each way.
    """

    def __init__(self, behind):
        self.behind = behind
        self.ahead = [[] for _ in behind]
        for node, laters in enumerate(behind):
            for later in laters:
                self.ahead[later].append(node)
        self.through = [0 for _ in behind]
        self.along = {(node, later): 0 for node, laters in enumerate(behind) for later in laters}
        while 0 in self.through:
            self._add(self._best_road())
        change = self._change_with_one_less()
        while len(change) > 0:
            self._do(change)
            change = self._change_with_one_less()

    def roads(self):
        """The roads, as lists of nodes."""
        along = {way: self.along[way] for way in self.along}
        found = []
        while len(found) < self.through[0]:
            road = [0]
            while len(self.behind[road[-1]]) > 0:
                node = road[-1]
                later = [other for other in self.behind[node] if along[(node, other)] > 0][0]
                along[(node, later)] -= 1
                road.append(later)
            found.append(road)
        return found

    def _best_road(self):
        """The road that comes through most nodes through which none comes yet."""
        gains, best = {}, {}
        for node in reversed(range(len(self.behind))):
            best[node] = max(self.behind[node], key=lambda later: gains[later], default=None)
            gains[node] = int(self.through[node] == 0)
            if best[node] is not None:
                gains[node] += gains[best[node]]
        road = [0]
        while best[road[-1]] is not None:
            road.append(best[road[-1]])
        return road

    def _add(self, road):
        for node in road:
            self.through[node] += 1
        for node, later in zip(road[:-1], road[1:]):
            self.along[(node, later)] += 1

    def _change_with_one_less(self):
        """How the roads can be changed so that there is one less: a list of places, empty if there is no way.

        A place is a tuple (node, side). At side 0 one road less comes to the node than goes through it, at side 1 one
        less goes through than goes on; the next place mends this. Where roads end nothing is left to be mended.
        """
        known = {(0, 0): None}
        left = [(0, 0)]
        while len(left) > 0:
            place = left.pop()
            if place[1] == 1 and len(self.behind[place[0]]) == 0:
                return _way_to(place, known)
            for later in self._mends(place):
                if later not in known:
                    known[later] = place
                    left.append(later)
        return []

    def _mends(self, place):
        node, side = place
        if side == 0:
            less = [(node, 1)] if self.through[node] > 1 else []
            return [*less, *[(earlier, 1) for earlier in self.ahead[node]]]
        return [(node, 0), *[(later, 0) for later in self.behind[node] if self.along[(node, later)] > 0]]

    def _do(self, change):
        for (node, side), (other, _) in zip(change[:-1], change[1:]):
            if node == other:
                self.through[node] += 1 if side == 1 else -1
            elif side == 1:
                self.along[(node, other)] -= 1
            else:
                self.along[(other, node)] += 1


def _way_to(place, known):
    found = []
    while place is not None:
        found.append(place)
        place = known[place]
    return found[::-1]
