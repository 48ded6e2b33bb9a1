"""Showings: data of lanes with which machines come to scenes."""

from partedlanes.costs import STEP, Costs
from partedlanes.digits import MOST_VALUES, without_zeros
from partedlanes.errors import TooMany
from partedlanes.guards import MOST_STEPS
from partedlanes.lanes import Data
from partedlanes.loads import MOST_LANES
from partedlanes.straights import straight_way, takings_along
from partedlanes.treks import carry, cheapest_leads, trek_along
from partedlanes.weaves import Weave


def lanes_to_crowd(sketch, index, code):
    """Data of lanes with which a machine does a row with a crowd, None if the row cannot see it."""
    if code not in sketch.done_at(index):
        return None
    way = straight_way(sketch, index, code, MOST_STEPS)
    if way is not None:
        return datas_of(takings_along(sketch, way))
    if sketch.arms is None:
        raise TooMany(MOST_LANES)
    weave = Weave(sketch.plot)
    _come_by_arms(sketch, sketch.scenes_at(index, code), weave)
    weave.visit(index)
    return datas_of(weave.takings())


def lanes_that_get_stuck(sketch):
    """Data of lanes with which a machine stands, None if none can."""
    goals = sketch.stuck()
    if len(goals) == 0:
        return None
    weave = Weave(sketch.plot)
    _come_by_arms(sketch, goals, weave)
    return datas_of(weave.takings())


def _come_by_arms(sketch, goals, weave):
    by_rows = {}
    for row, _, code, _ in [goal for goal in goals if sketch.plot.is_trunk(goal)]:
        by_rows[row] = by_rows.get(row, 0) | (1 << code)
    near = sketch.that_come_to(by_rows, not all([sketch.plot.is_trunk(goal) for goal in goals]))
    come_to(sketch.plot, sketch.start, goals, near, weave)


def come_to(plot, start, goals, near, carrier):
    """Has a carrier go the cheapest way to one of the goals, so that one step more is within those that may be done.

    near: a dict of rows with the crowds of the trunk from which goals may be come to, or None if this is not known.
    """
    costs = Costs(plot)
    cost, leads = cheapest_leads(costs, start, {goal: True for goal in goals}, near)
    if cost // STEP >= MOST_STEPS:
        raise TooMany(MOST_LANES)
    carry(costs, trek_along(costs, leads), carrier)


def datas_of(takings):
    """The data of lanes that take these values."""
    taken = [without_zeros(values) for values in takings]
    if len(taken) > MOST_LANES or max([len(values) for values in taken]) > MOST_VALUES:
        raise TooMany(MOST_LANES)
    return [Data(*values) for values in taken]
