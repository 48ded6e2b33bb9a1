"""Showings: data of lanes with which machines come to scenes."""

from partedlanes.digits import MOST_VALUES, without_zeros
from partedlanes.errors import TooMany
from partedlanes.guards import MOST_STEPS
from partedlanes.lanes import Data
from partedlanes.least import STEP
from partedlanes.loads import MOST_LANES
from partedlanes.treks import carry, cheapest_leads, trek_along


def come_to(found, goals, carrier):
    """Has a carrier go the way to one of the goals, so that one step more is within those that may be asked for."""
    cost, leads = cheapest_leads(found, goals)
    if cost // STEP >= MOST_STEPS:
        raise TooMany(MOST_LANES)
    carry(found, trek_along(found, leads), carrier)


def datas_of(carrier):
    """The data of the lanes of a carrier."""
    taken = [without_zeros(values) for values in carrier.takings()]
    if len(taken) > MOST_LANES or max([len(values) for values in taken]) > MOST_VALUES:
        raise TooMany(MOST_LANES)
    return [Data(*values) for values in taken]
