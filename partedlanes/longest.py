"""The greatest numbers of steps that scenes can have, and how long lanes wait, where no scene comes again."""

from partedlanes.claims import Claims
from partedlanes.treks import ways
from partedlanes.unions import arrivals_of_kind, grouped


class Longest:
    """The greatest numbers of steps from the scenes on that can come from a first one.

    `circle` is a ring of them, or []; if there is one, nothing else is told. `sure` is a dict of all scenes, each with
    a dict of its arrivals and their numbers, `lengths` one of their lengths; `wait` is how long a lane can wait.
    """

    def __init__(self, plot, start):
        self.plot = plot
        self.start = start
        self.stride = 1
        self.sure = {}
        self.lengths = {}
        self.tails = {}
        self.behind = {}
        self.told_arms = {}
        self.circle = []
        self.longest_wait = 0
        self.claims = Claims(plot, self.lengths, self.sure)
        self._go_deep()
        self.endless = len(self.circle) > 0
        self.greatest = None if self.endless else self.lengths[start]
        self.wait = None if self.endless else self.longest_wait

    def _go_deep(self):
        """Tells scenes behind all those that they lead to, until one leads back to a scene that is not told yet."""
        left = [self.start]
        road = {}
        while len(left) > 0 and len(self.circle) == 0:
            scene = left[-1]
            missing = [] if scene in self.lengths else self._missing(scene)
            if len(missing) > 0:
                road[scene] = True
                left.extend(missing)
                back = [later for later in missing if later in road]
                if len(back) > 0:
                    self.circle = list(road)[list(road).index(back[0]):]
            else:
                left.pop()
                if scene not in self.lengths:
                    self._tell(scene)
                    road.pop(scene, None)

    def _missing(self, scene):
        """Scenes that have to be told ahead of a scene, as far as can be seen yet; none if it can be told."""
        if scene in self.behind:
            # When the scene is looked at once more, all that it asked for is told.
            return []
        if self.plot.parts(scene):
            return self._missing_arms(scene)
        self.behind[scene] = self.plot.comings(scene)
        return self._not_told(self.behind[scene])

    def _missing_arms(self, scene):
        first = self.plot.first_arm(scene)
        missing = self._not_told([first])
        if len(missing) == 0:
            firsts = {first: 0} if isinstance(first, int) else self.sure[first]
            seconds = [
                self.plot.second_arm(scene, 0 if ended else 1) for ended in (True, False)
                if len(arrivals_of_kind(firsts, ended)) > 0
            ]
            missing = self._not_told(seconds)
        if len(missing) == 0:
            self.told_arms[scene] = self.claims.told_of_arms(scene)
            self.behind[scene] = [self.plot.rest(scene, both) for both in self.told_arms[scene][1]]
            missing = self._not_told(self.behind[scene])
        return missing

    def _not_told(self, laters):
        return [later for later in laters if not isinstance(later, int) and later not in self.lengths]

    def _tell(self, scene):
        laters = self.behind[scene]
        if scene in self.told_arms:
            length, sums = self.told_arms[scene]
            waits = self._waits_of_arms(scene)
            comings = [(1 + sums[both][0], waits[both], self.plot.rest(scene, both)) for both in sums]
            self._tell_behind(scene, length, comings)
        elif len(laters) == 1 and not isinstance(laters[0], int):
            ahead = 0 if self.plot.is_open(scene) else 1
            numbers = self.sure[laters[0]]
            self.lengths[scene] = ahead + self.lengths[laters[0]]
            self.sure[scene] = {arrival: ahead + numbers[arrival] for arrival in numbers}
            self.tails[scene] = self.tails[laters[0]]
        else:
            ahead = 0 if self.plot.is_open(scene) else 1
            self._tell_behind(scene, 0, [(ahead, 0, later) for later in laters])

    def _tell_behind(self, scene, length, comings):
        """Tells a scene that has at least a length; comings: tuples (steps, how long lanes have waited, what comes)."""
        told = self.claims.asked_behind([(ahead, later) for ahead, _, later in comings], length)
        self.lengths[scene], self.sure[scene] = told
        self.tails[scene] = self._tails_behind([(wait, later) for _, wait, later in comings])

    def length(self, scene):
        """The length of a scene."""
        return self.lengths[scene]

    def numbers_of(self, scene):
        """Tuples (number of a crowd, number of steps) of the arrivals of a scene."""
        return list(self.sure[scene].items())

    def ring(self):
        """Scenes each of which leads to the next one, the last one to the first, if there is such a ring."""
        return [scene for scene in self.circle if not self.plot.is_open(scene)]

    def nexts(self, scene):
        """Tuples (steps, what comes, arms) of a scene, as those of a least table."""
        if scene not in self.told_arms:
            ahead = 0 if self.plot.is_open(scene) else 1
            return [(ahead, later, ()) for later in self.behind[scene]]
        sums = self.told_arms[scene][1]
        return [(1 + sums[both][0], self.plot.rest(scene, both), sums[both][1:]) for both in sums]

    def leads_to_most(self):
        """How a machine comes to just as many steps as the first scene has at most, scene by scene."""
        scene = self.start
        found = []
        while not isinstance(scene, int) and self.lengths[scene] > 0:
            lead = self._longest_lead(scene)
            found.append(lead)
            scene = lead[1]
        return found

    def _longest_lead(self, scene):
        over = [way for way in self.nexts(scene) if isinstance(way[1], int)]
        for ahead, later, arms in [*ways(self, scene), *over]:
            left = 0 if isinstance(later, int) else self.lengths[later]
            if ahead + left == self.lengths[scene]:
                return (scene, later, arms)
        return ()

    def _tails_behind(self, comings):
        """How long the lanes of each arrival can have waited when an entry is over; tells how long others wait.

        comings: tuples (how long lanes have waited, what comes then).
        """
        tails = {}
        for wait, later in comings:
            if isinstance(later, int):
                told = {later: wait if later > 0 else 0}
            else:
                self._see_wait(later, wait)
                told = self.tails[later]
            for arrival, tail in told.items():
                tails[arrival] = max(tails.get(arrival, 0), tail)
        return tails

    def _see_wait(self, scene, wait):
        """Lanes that have waited come to a scene, where they go on, if it goes on."""
        if not self.plot.is_stuck(scene):
            self.longest_wait = max(self.longest_wait, wait)

    def _waits_of_arms(self, scene):
        """A dict of the crowds of both arms together, and how long lanes of them can have waited when both are over."""
        firsts = self._told_of_arm(self.plot.first_arm(scene), 0)
        waits = {}
        for ended in (True, False):
            for (number, tail), some in grouped(arrivals_of_kind(firsts, ended)).items():
                arm = self.plot.second_arm(scene, 0 if ended else 1)
                if not isinstance(arm, int):
                    self._see_wait(arm, number)
                for (more, other_tail), others in grouped(self._told_of_arm(arm, number)).items():
                    wait = max(other_tail, 0 if ended else tail + more)
                    for both in self.claims.unions.together(some, others):
                        waits[both] = max(waits.get(both, 0), wait)
        return waits

    def _told_of_arm(self, arm, waited):
        """A dict of the arrivals of an arm: the number of each, and how long its lanes have waited when it is over.

        waited: how long they waited ahead of it, which counts if they are at its end at once.
        """
        if isinstance(arm, int):
            return {arm: (0, waited if arm > 0 else 0)}
        return {arrival: (self.sure[arm][arrival], self.tails[arm][arrival]) for arrival in self.sure[arm]}
