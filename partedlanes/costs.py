"""How few steps lead scenes to each of their arrivals, found where it is asked for."""

from heapq import heappop, heappush

from partedlanes.joints import Joint
from partedlanes.unions import arrivals_of_kind

# What a step costs: so much that of ways with as few steps that with the least crowds costs least.
STEP = 1000000


class Costs:
    """The arrivals of scenes, open scenes among them, with their least costs, those of the arms counted.

    `sure` is a dict of all scenes that were needed, each with a dict of its arrivals and their costs. Arrivals are
    settled by their costs, cheapest first, so that a settled one never becomes cheaper.

    The *source* of an arm is what comes of it in the end, as long as only one thing can come; arms have the arrivals of
    their sources. Scenes that part in arms of the same sources share a joint, in which these are paired once for all.
    """

    def __init__(self, plot):
        self.plot = plot
        self.stride = STEP
        self.sure = {}
        self.costs = {}
        self.holders = {}
        self.parting = {}
        self.joints = {}
        self.joints_of = {}
        self.first_joints = {}
        self.second_joints = {}
        self.fresh = []
        self.queue = []

    def _settle(self):
        while len(self.fresh) + len(self.queue) > 0:
            if len(self.fresh) > 0:
                self._go_on(self.fresh.pop())
            else:
                cost, scene, arrival = heappop(self.queue)
                if arrival not in self.sure[scene]:
                    self.sure[scene][arrival] = cost
                    self._tell_others(scene, arrival, cost)

    def _need(self, scene):
        if scene not in self.sure:
            self.sure[scene] = {}
            self.costs[scene] = {}
            self.holders[scene] = {}
            self.parting[scene] = []
            self.first_joints[scene] = []
            self.second_joints[scene] = []
            self.fresh.append(scene)

    def _go_on(self, scene):
        if not self.plot.parts(scene):
            for later in self.plot.comings(scene):
                self._lead(scene, later, self.weight(scene, later))
        elif scene in self.joints_of:
            for joint in list(self.joints_of[scene]):
                self._lead_behind(scene, joint, list(joint.sums))
        else:
            self._part(scene)

    def _part(self, scene):
        self.joints_of[scene] = []
        source, ahead = self._source_of(self.plot.first_arm(scene))
        if not isinstance(source, int):
            self.parting[source].append((scene, ahead))
        for ended in (True, False):
            if len(arrivals_of_kind(self._arrivals_of(source), ended)) > 0:
                self._join(scene, source, ahead, ended)

    def weight(self, scene, later):
        """What the step from a scene whose lanes do not part costs."""
        if scene[0] >= 0:
            return self.stride
        code = later if isinstance(later, int) else later[2]
        return self.plot.crowds.weight(-1 - scene[0], code)

    def _lead(self, scene, later, ahead):
        """All with which a later scene comes to its end is an arrival of a scene; ahead: what the way there costs."""
        if isinstance(later, int):
            self._offer(scene, later, ahead)
            return
        self._need(later)
        holders = self.holders[later]
        if scene not in holders or ahead < holders[scene]:
            holders[scene] = ahead
            for arrival, cost in list(self.sure[later].items()):
                self._offer(scene, arrival, ahead + cost)

    def _offer(self, scene, arrival, cost):
        costs = self.costs[scene]
        if arrival not in costs or cost < costs[arrival]:
            costs[arrival] = cost
            heappush(self.queue, (cost, scene, arrival))

    def _tell_others(self, scene, arrival, cost):
        """An arrival of a scene is settled."""
        ended = arrival == 0
        for holder, ahead in list(self.holders[scene].items()):
            self._offer(holder, arrival, ahead + cost)
        for joint in list(self.first_joints[scene]):
            if joint.ended == ended:
                self._lead_on(joint, joint.see_firsts({arrival: cost}))
        for joint in list(self.second_joints[scene]):
            self._lead_on(joint, joint.see_seconds({arrival: cost}))
        if len(self.parting[scene]) > 0 and len(arrivals_of_kind(self.sure[scene], ended)) == 1:
            for holder, ahead in list(self.parting[scene]):
                self._join(holder, scene, ahead, ended)

    def _arrivals_of(self, source):
        return {source: 0} if isinstance(source, int) else self.sure[source]

    def _source_of(self, later):
        """The source of an arm, and what the way there costs."""
        ahead = 0
        passed = {}
        while not isinstance(later, int) and later not in passed:
            self._need(later)
            passed[later] = True
            comings = [] if self.plot.parts(later) else self.plot.comings(later)
            if len(comings) == 1:
                ahead += self.weight(later, comings[0])
                later = comings[0]
        return (later, ahead)

    def _join(self, scene, source, ahead, ended):
        """The first arm of a scene can come to its end, with all its lanes ended or not; so there is the second one."""
        other, more = self._source_of(self.plot.second_arm(scene, 0 if ended else 1))
        if (source, other, ended) not in self.joints:
            self._make_joint(source, other, ended)
        joint = self.joints[(source, other, ended)]
        joint.holders[scene] = self.stride + ahead + more
        self.joints_of[scene].append(joint)
        self._lead_behind(scene, joint, list(joint.sums))

    def _lead_behind(self, scene, joint, codes):
        """What comes behind both arms counts for a scene only if its own arrivals are needed."""
        if scene in self.sure:
            for both in codes:
                self._lead(scene, self.plot.rest(scene, both), joint.cost(scene, both))

    def _make_joint(self, source, other, ended):
        joint = Joint(ended, self.plot.crowds.counted)
        self.joints[(source, other, ended)] = joint
        joint.see_firsts(arrivals_of_kind(self._arrivals_of(source), ended))
        joint.see_seconds(self._arrivals_of(other))
        if not isinstance(source, int):
            self.first_joints[source].append(joint)
        if not isinstance(other, int):
            self.second_joints[other].append(joint)

    def _lead_on(self, joint, codes):
        """Scenes that part come to the ends of both arms with these crowds together."""
        for holder in list(joint.holders):
            self._lead_behind(holder, joint, codes)

    def nexts(self, scene):
        """Tuples (cost, what comes, arms) of a scene: arms are the crowds of both arms, () if lanes do not part."""
        if not self.plot.parts(scene):
            return [(self.weight(scene, later), later, ()) for later in self.plot.comings(scene)]
        if scene not in self.joints_of:
            self._part(scene)
            self._settle()
        return [
            (joint.cost(scene, both), self.plot.rest(scene, both), joint.sums[both][1:])
            for joint in self.joints_of[scene] for both in joint.sums
        ]
