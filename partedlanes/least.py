"""Least tables of scenes."""

from partedlanes.errors import TooMany
from partedlanes.pairings import Pairings
from partedlanes.sieves import many_of


class Least:
    """The least table of the scenes that come from those that are needed, open scenes among them.

    `sure` is a dict of all scenes, each with the set of its arrivals, as `pairings` tells it. Scenes and arrivals are
    counted, but for open scenes, and for those of the trunk if these are counted elsewhere: then `in_trunk` is a list
    of the scenes of the trunk that were found.
    """

    def __init__(self, plot, limit, counts_trunk):
        self.plot = plot
        self.limit = limit
        self.counts_trunk = counts_trunk
        self.many = 0
        self.in_trunk = []
        self.sure = {}
        self.holders = {}
        self.watchers = {}
        self.led = {}
        self.pairings = Pairings(plot)
        self.fresh, self.grown, self.due = [], [], {}

    def need(self, scene):
        """A scene has to be in the table."""
        if scene not in self.sure:
            self.sure[scene] = 0
            self.holders[scene] = []
            self.fresh.append(scene)
            self._count(scene, 1)
            if scene[0] >= 0 and not self.counts_trunk and self.plot.is_trunk(scene):
                self.in_trunk.append(scene)

    def _count(self, scene, more):
        if scene[0] >= 0 and (self.counts_trunk or not self.plot.is_trunk(scene)):
            self.many += more
            if self.many > self.limit:
                raise TooMany(self.limit)

    def settle(self):
        """Finds all that comes of the scenes that are needed."""
        while len(self.fresh) + len(self.grown) + len(self.due) > 0:
            if len(self.fresh) > 0:
                self._go_on(self.fresh.pop())
            elif len(self.grown) > 0:
                self._tell_others(self.grown.pop())
            else:
                # What arms come to together is looked at when as much of them is told as can be.
                due = list(self.due)
                self.due = {}
                for scene in due:
                    self._pair(scene)

    def _go_on(self, scene):
        if self.plot.parts(scene):
            self.led[scene] = 0
            self._watch(scene, self.plot.first_arm(scene))
            self.due[scene] = True
        else:
            for later in self.plot.comings(scene):
                self._lead(scene, later)

    def _lead(self, scene, later):
        """All with which a later scene comes to its end is an arrival of a scene."""
        if isinstance(later, int):
            self._add(scene, self.pairings.only(later))
        else:
            self.need(later)
            self.holders[later].append(scene)
            self._add(scene, self.sure[later])

    def _add(self, scene, arrivals):
        more = arrivals & ~self.sure[scene]
        if more > 0:
            self.sure[scene] = self.sure[scene] | more
            self.grown.append(scene)
            self._count(scene, many_of(more))

    def _tell_others(self, scene):
        """A scene has more arrivals."""
        arrivals = self.sure[scene]
        for holder in self.holders[scene]:
            self._add(holder, arrivals)
        for watcher in self.watchers.get(scene, ()):
            self.due[watcher] = True

    def _watch(self, scene, arm):
        """A scene that parts hangs on what comes of an arm."""
        if not isinstance(arm, int):
            self.need(arm)
            self.watchers.setdefault(arm, {})[scene] = True

    def _pair(self, scene):
        """Looks what the arms of a scene come to together."""
        both = 0
        for first, second, some in self._arms(scene):
            self._watch(scene, second)
            both = both | self.pairings.joined((first, second, some & 1), some, self.arrivals_of(second))
        more = both & ~self.led[scene]
        self.led[scene] = both
        for code in self.pairings.codes(more):
            self._lead(scene, self.plot.rest(scene, code))

    def _arms(self, scene):
        """Tuples (first arm, second arm, set): with these of its arrivals the first arm leads to such a second one."""
        first = self.plot.first_arm(scene)
        firsts = self.arrivals_of(first)
        found = [(first, self.plot.second_arm(scene, 0), firsts & 1)] if firsts & 1 > 0 else []
        if firsts & ~1 > 0:
            found.append((first, self.plot.second_arm(scene, 1), firsts & ~1))
        return found

    def arrivals_of(self, arm):
        """The set of all with which an arm comes to its end."""
        return self.pairings.only(arm) if isinstance(arm, int) else self.sure[arm]

    def arms_of(self, scene):
        """The scenes of the arms where the lanes of a scene part."""
        arms = [self.plot.first_arm(scene), *[second for _, second, _ in self._arms(scene)]]
        return [arm for arm in arms if not isinstance(arm, int)]

    def leads(self, scene):
        """The scenes to which a scene leads, open ones among them."""
        if not self.plot.parts(scene):
            return [later for later in self.plot.comings(scene) if not isinstance(later, int)]
        rests = [self.plot.rest(scene, code) for code in self.pairings.codes(self.led[scene])]
        return [*self.arms_of(scene), *[rest for rest in rests if not isinstance(rest, int)]]
