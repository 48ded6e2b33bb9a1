"""The greatest numbers of steps that scenes can have, and how long lanes wait, where no scene comes again."""

from partedlanes.claims import Claims
from partedlanes.treks import ways
from partedlanes.unions import arrivals_of_kind, grouped


class Longest:
    """The greatest numbers of steps from the scenes of a least table on.

    `circle` is a ring of its scenes, or []; if there is one, nothing else is told. `sure` is a dict of all scenes, each
    with a dict of its arrivals and their numbers, `lengths` one of their lengths; `wait` is how long a lane can wait.
    """

    def __init__(self, found):
        self.plot = found.plot
        self.start = found.start
        self.stride = 1
        self.sure = {}
        self.lengths = {}
        self.tails = {}
        self.wait = 0
        self.claims = Claims(found.plot, self.lengths, self.sure)
        leads = {scene: [way[1] for way in ways(found, scene)] for scene in found.sure}
        order, self.circle = ordered(found.start, leads)
        if len(self.circle) == 0:
            for scene in order:
                self.lengths[scene], self.sure[scene] = self.claims.asked(scene)
                self.tails[scene] = self._tails_of(scene)

    def nexts(self, scene):
        """Tuples (steps, what comes, arms) of a scene, as those of a least table."""
        if not self.plot.parts(scene):
            ahead = 0 if self.plot.is_open(scene) else 1
            return [(ahead, later, ()) for later in self.plot.comings(scene)]
        sums = self.claims.arms(scene)[1]
        return [(1 + sums[both][0], self.plot.rest(scene, both), sums[both][1:]) for both in sums]

    def leads_to_most(self):
        """How a machine comes to just as many steps as the first scene has at most, scene by scene."""
        scene = self.start
        found = []
        while not isinstance(scene, int) and self.lengths[scene] > 0:
            lead = self._longest_lead(scene)
            found.append(lead)
            scene = lead[1]
        return found

    def _longest_lead(self, scene):
        over = [way for way in self.nexts(scene) if isinstance(way[1], int)]
        for ahead, later, arms in [*ways(self, scene), *over]:
            left = 0 if isinstance(later, int) else self.lengths[later]
            if ahead + left == self.lengths[scene]:
                return (scene, later, arms)
        return ()

    def _tails_of(self, scene):
        """How long the lanes of each arrival can have waited when the entry is over; tells how long others wait."""
        if self.plot.parts(scene):
            waits = self._waits_of_arms(scene)
            return self._tails_behind([(waits[both], self.plot.rest(scene, both)) for both in waits])
        return self._tails_behind([(0, later) for later in self.plot.comings(scene)])

    def _tails_behind(self, comings):
        """The same for tuples (how long lanes have waited, what comes then)."""
        tails = {}
        for wait, later in comings:
            if isinstance(later, int):
                told = {later: wait if later > 0 else 0}
            else:
                self._see_wait(later, wait)
                told = self.tails[later]
            for arrival, tail in told.items():
                tails[arrival] = max(tails.get(arrival, 0), tail)
        return tails

    def _see_wait(self, scene, wait):
        """Lanes that have waited come to a scene, where they go on, if it goes on."""
        if not self.plot.is_stuck(scene):
            self.wait = max(self.wait, wait)

    def _waits_of_arms(self, scene):
        """A dict of the crowds of both arms together, and how long lanes of them can have waited when both are over."""
        firsts = self._told_of_arm(self.plot.first_arm(scene), 0)
        waits = {}
        for ended in (True, False):
            for (number, tail), some in grouped(arrivals_of_kind(firsts, ended)).items():
                arm = self.plot.second_arm(scene, 0 if ended else 1)
                if not isinstance(arm, int):
                    self._see_wait(arm, number)
                for (more, other_tail), others in grouped(self._told_of_arm(arm, number)).items():
                    wait = max(other_tail, 0 if ended else tail + more)
                    for both in self.claims.unions.together(some, others):
                        waits[both] = max(waits.get(both, 0), wait)
        return waits

    def _told_of_arm(self, arm, waited):
        """A dict of the arrivals of an arm: the number of each, and how long its lanes have waited when it is over.

        waited: how long they waited ahead of it, which counts if they are at its end at once.
        """
        if isinstance(arm, int):
            return {arm: (0, waited if arm > 0 else 0)}
        return {arrival: (self.sure[arm][arrival], self.tails[arm][arrival]) for arrival in self.sure[arm]}


def ordered(start, leads):
    """All nodes to which leads go, those to which a node leads ahead of it, and a ring, [] if there is none."""
    order, road = [], []
    done = {}
    left = [start]
    while len(left) > 0:
        node = left[-1]
        if node not in done:
            done[node] = False
            road.append(node)
            for later in leads[node]:
                if later in done and not done[later]:
                    return (order, road[road.index(later):])
            left.extend([later for later in leads[node] if later not in done])
        else:
            left.pop()
            if not done[node]:
                done[node] = True
                order.append(road.pop())
    return (order, [])
