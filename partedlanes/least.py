"""Least tables of scenes, found with the fewest steps to each arrival."""

from heapq import heappop, heappush

from partedlanes.errors import TooMany

# What a step costs: so much that of ways with as few steps that with the least crowds costs least.
STEP = 1000000


class Least:
    """The least table of the scenes that come from a first one, open scenes among them.

    `sure` is a dict of all scenes, each with a dict of its arrivals and their least costs, those of the arms counted.
    Arrivals are settled by their costs, cheapest first, so that a settled one never becomes cheaper.
    """

    def __init__(self, plot, start, limit):
        self.plot = plot
        self.start = start
        self.limit = limit
        self.stride = STEP
        self.many = 0
        self.sure = {}
        self.costs = {}
        self.sums = {}
        self.holders = {}
        self.first_of = {}
        self.second_of = {}
        self.fresh = []
        self.queue = []
        self._need(start)
        self._settle()

    def _settle(self):
        while len(self.fresh) + len(self.queue) > 0:
            if len(self.fresh) > 0:
                self._go_on(self.fresh.pop())
            else:
                cost, scene, arrival = heappop(self.queue)
                if arrival not in self.sure[scene]:
                    self.sure[scene][arrival] = cost
                    self._tell_others(scene, arrival, cost)

    def _count(self, scene):
        """Counts a scene or an arrival; those of open scenes are not in the table."""
        if scene[0] >= 0:
            self.many += 1
            if self.many > self.limit:
                raise TooMany(self.limit)

    def _need(self, scene):
        if scene not in self.sure:
            self._count(scene)
            self.sure[scene] = {}
            self.costs[scene] = {}
            self.holders[scene] = {}
            self.first_of[scene] = []
            self.second_of[scene] = {}
            self.fresh.append(scene)

    def _go_on(self, scene):
        if not self.plot.parts(scene):
            for later in self.plot.comings(scene):
                self._lead(scene, later, self.weight(scene, later))
            return
        self.sums[scene] = {}
        first = self.plot.first_arm(scene)
        if isinstance(first, int):
            self._see_first(scene, first, 0)
        else:
            self._need(first)
            self.first_of[first].append(scene)
            for arrival, cost in list(self.sure[first].items()):
                self._see_first(scene, arrival, cost)

    def weight(self, scene, later):
        """What the step from a scene whose lanes do not part costs."""
        if scene[0] >= 0:
            return self.stride
        code = later if isinstance(later, int) else later[2]
        return self.plot.crowds.weight(-1 - scene[0], code)

    def _lead(self, scene, later, ahead):
        """All with which a later scene comes to its end is an arrival of a scene; ahead: what the way there costs."""
        if isinstance(later, int):
            self._offer(scene, later, ahead)
            return
        self._need(later)
        self.holders[later][scene] = ahead
        for arrival, cost in list(self.sure[later].items()):
            self._offer(scene, arrival, ahead + cost)

    def _offer(self, scene, arrival, cost):
        costs = self.costs[scene]
        if arrival not in costs:
            self._count(scene)
        if arrival not in costs or cost < costs[arrival]:
            costs[arrival] = cost
            heappush(self.queue, (cost, scene, arrival))

    def _tell_others(self, scene, arrival, cost):
        for holder, ahead in list(self.holders[scene].items()):
            self._offer(holder, arrival, ahead + cost)
        for holder in list(self.first_of[scene]):
            self._see_first(holder, arrival, cost)
        for holder, firsts in list(self.second_of[scene].items()):
            self._pair(holder, firsts, {arrival: cost})

    def _see_first(self, scene, first, cost):
        """The first arm of a scene can come to its end with a crowd."""
        second = self.plot.second_arm(scene, first)
        if isinstance(second, int):
            self._pair(scene, {first: cost}, {second: 0})
        else:
            self._need(second)
            firsts = self.second_of[second]
            if scene not in firsts:
                firsts[scene] = {}
            firsts[scene][first] = cost
            self._pair(scene, {first: cost}, self.sure[second])

    def _pair(self, scene, firsts, seconds):
        """Both arms of a scene can come to their ends with each of these, which are dicts of their costs."""
        sums = self.sums[scene]
        counted = self.plot.crowds.counted
        better = {}
        for first, cost in firsts.items():
            for second, more in seconds.items():
                both = first + second if counted else first | second
                if both not in sums or cost + more < sums[both][0]:
                    sums[both] = (cost + more, first, second)
                    better[both] = True
        for both in better:
            self._lead(scene, self.plot.rest(scene, both), self.stride + sums[both][0])

    def nexts(self, scene):
        """Tuples (cost, what comes, arms) of a scene: arms are the crowds of both arms, () if lanes do not part."""
        if not self.plot.parts(scene):
            return [(self.weight(scene, later), later, ()) for later in self.plot.comings(scene)]
        return [
            (self.stride + cost, self.plot.rest(scene, both), (first, second))
            for both, (cost, first, second) in self.sums[scene].items()
        ]
