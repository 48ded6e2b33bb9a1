"""Treks: what machines do on their way through scenes, part by part.

A trek is a list of parts, in order, which work on a pile of bunches of lanes, the top one last:

- ("do", scene, crowd): the top bunch, of this scene, does its row (of an open scene: shows what it has taken), and then
  has this crowd, which is told by its number; 0 if all its lanes have ended.
- ("part", scene): the top bunch does its branch and parts; the lanes that go to the next row become the top bunch.
- ("finish", scene, arrival): the top bunch goes on from this scene until its entry is over, with this arrival.
- ("swap",): the two bunches on top change their places.
- ("rejoin",): the two bunches on top become one.

What is *found* of scenes is an object with `plot`, `stride` (what a step costs), `nexts(scene)`, a list of ways, and
`sure`, a dict of scenes, each with a dict of its arrivals and what these cost; the arms of a scene are in it when its
ways were asked for. A way is a tuple (cost, what comes, arms): arms are () if the lanes do not part, or to the first
arm; (first,) to the second one, with the crowd that the first one comes to its end with; (first, second) to what comes
behind both.
"""

from heapq import heappop, heappush


def ways(found, scene):
    """The ways to all scenes that a scene leads to."""
    plot = found.plot
    later_ways = [way for way in found.nexts(scene) if not isinstance(way[1], int)]
    if not plot.parts(scene):
        return later_ways
    arm = plot.first_arm(scene)
    over = isinstance(arm, int)
    firsts = {arm: 0} if over else found.sure[arm]
    seconds = [(found.stride + firsts[first], plot.second_arm(scene, first), (first,)) for first in firsts]
    first_ways = [] if over else [(found.stride, arm, ())]
    return [*first_ways, *[way for way in seconds if not isinstance(way[1], int)], *later_ways]


def cheapest_leads(found, start, goals, near):
    """How the scene among the goals to which the way costs least is come to: (cost, leads).

    Leads are tuples (scene, what comes, arms), one behind another. near: a dict of rows with the crowds of the trunk
    from which goals may be come to, or None if this is not known.
    """
    queue = [(0, start, ())]
    leads = {}
    while len(queue) > 0:
        cost, scene, lead = heappop(queue)
        if scene not in leads:
            leads[scene] = lead
            if scene in goals:
                return (cost, _leads_to(scene, leads))
            for ahead, later, arms in ways(found, scene):
                if later not in leads and _may_help(found.plot, later, near):
                    heappush(queue, (cost + ahead, later, (scene, later, arms)))
    return None


def _may_help(plot, scene, near):
    row, _, code, _ = scene
    return near is None or row < 0 or not plot.is_trunk(scene) or (near.get(row, 0) >> code) & 1 == 1


def _leads_to(scene, leads):
    found = []
    while len(leads[scene]) > 0:
        found.append(leads[scene])
        scene = leads[scene][0]
    return found[::-1]


def trek_along(found, leads):
    """The trek that goes along these leads."""
    return [part for lead in leads for part in _parts_of(found, lead)]


def carry(found, trek, carrier):
    """Has a carrier go a trek; it has the methods `do`, `part`, `swap` and `rejoin`."""
    left = trek[::-1]
    while len(left) > 0:
        part = left.pop()
        if part[0] == "finish":
            left.extend(_parts_to_finish(found, part[1], part[2])[::-1])
        elif part[0] == "do":
            carrier.do(part[1], part[2])
        elif part[0] == "part":
            carrier.part(part[1])
        elif part[0] == "swap":
            carrier.swap()
        else:
            carrier.rejoin()


def _parts_of(found, lead):
    scene, later, arms = lead
    plot = found.plot
    if not plot.parts(scene):
        return [("do", scene, later if isinstance(later, int) else later[2])]
    parts = [("part", scene)]
    if len(arms) > 0:
        parts += [*_finish(plot.first_arm(scene), arms[0]), ("swap",)]
    if len(arms) > 1:
        parts += [*_finish(plot.second_arm(scene, arms[0]), arms[1]), ("rejoin",)]
    return parts


def _finish(later, arrival):
    return [] if isinstance(later, int) else [("finish", later, arrival)]


def _parts_to_finish(found, scene, arrival):
    """The parts of the way with which a scene comes to its end with an arrival at just the cost that is told."""
    cost = found.sure[scene][arrival]
    for ahead, later, arms in found.nexts(scene):
        left = {later: 0} if isinstance(later, int) else found.sure[later]
        if arrival in left and ahead + left[arrival] == cost:
            return [*_parts_of(found, (scene, later, arms)), *_finish(later, arrival)]
    return []
