"""Counts: tables of scenes of just so many lanes, and how few lanes show something."""

from math import comb

from partedlanes.least import Least
from partedlanes.marches import March
from partedlanes.plots import Plot
from partedlanes.roads import joins_of
from partedlanes.showings import come_to, datas_of
from partedlanes.sieves import many_of

MOST_COUNTED = 8


def counted_table(program, rule, lanes, limit):
    """The least table of the counted scenes that can come with so many lanes."""
    plot = Plot(program, joins_of(program, rule), True)
    table = Least(plot, limit, True)
    table.need(plot.first_scene(lanes))
    table.settle()
    return table


def fewest_shown(sketch, index, crowd, datas, fewest):
    """The fewest lanes with which a machine does a row with a crowd, or stands if index is None; and their data.

    datas: data of any number of lanes that show it, or None if they are not known; fewest: fewer lanes can't show it.
    Tables of fewer lanes are made, too, if they may have more scenes and arrivals than are asked for.
    """
    for lanes in range(1, MOST_COUNTED + 1):
        is_small = most_counted(sketch, lanes) <= sketch.limit
        if is_small and datas is not None and lanes == len(datas):
            return (lanes, datas)
        if not is_small or lanes >= fewest:
            table = counted_table(sketch.program, sketch.rule, lanes, sketch.limit)
            goals = _goals_in(table, index, crowd)
            if len(goals) > 0:
                return (lanes, _datas_to(table.plot, lanes, goals))
    return None


def _goals_in(table, index, crowd):
    plot = table.plot
    if index is None:
        return [scene for scene in table.sure if plot.is_stuck(scene)]
    some = [scene for scene in table.sure if scene[0] == index and not plot.is_stuck(scene)]
    return [scene for scene in some if sorted(set(plot.crowds.crowd_of(scene[2]))) == list(crowd)]


def _datas_to(plot, lanes, goals):
    march = March(plot, lanes)
    come_to(plot, plot.first_scene(lanes), goals, None, march)
    return datas_of(march.takings())


def most_counted(sketch, lanes):
    """At least as many as there are scenes and arrivals of so many lanes.

    Each scene of any number of lanes stands for those in which the lanes are shared out to its classes.
    """
    if sketch.arms is None:
        # All lanes are in each scene, which has one arrival at most.
        return 2 * sum([_shared(sketch.sieve, sketch.trunk[index], lanes - 1, 1) for index in sketch.trunk])
    found = 2 * sum([_shared(sketch.sieve, sketch.trunk[index], lanes, 0) for index in sketch.trunk])
    table = sketch.arms
    for scene in table.sure:
        if scene[0] >= 0:
            arrivals = _shared(sketch.sieve, table.sure[scene] & ~1, lanes, 0) + 1
            found += comb(lanes, many_of(scene[2])) * (1 + arrivals)
    return found


def _shared(sieve, some, lanes, less):
    """In how many ways lanes are shared out to the classes of the crowds of a set, or to so many classes less."""
    return sum([
        many_of(some & crowds) * comb(lanes, size + 1 - less) for size, crowds in enumerate(sieve.by_sizes())
    ])
