"""Fewest lanes: scenes of just so many lanes, and how few lanes show what can come."""

from partedlanes.checks import is_between
from partedlanes.claims import is_told_table
from partedlanes.crowds import is_crowd
from partedlanes.errors import BadNumber, NoScene
from partedlanes.guards import PILE_RULES, ask_limit, ask_program, ask_rule
from partedlanes.least import Least
from partedlanes.marches import March
from partedlanes.plots import Plot, is_scene
from partedlanes.sets import Sets
from partedlanes.showings import come_to, datas_of
from partedlanes.sights import ask_seeing_row, seeing_scenes, stuck_scenes
from partedlanes.tellings import round_scenes, table_of, told_scenes

_MOST_COUNTED = 8


class Counted:
    """The counted scenes of a program that can come with just so many lanes, and their arrivals."""

    def __init__(self, program, lanes, *, rule="told", limit=4000):
        ask_program(program)
        ask_rule(rule, PILE_RULES)
        _ask_lanes(lanes)
        ask_limit(limit)
        plot = Plot(program, rule, True)
        self.program = program
        self.found = Least(plot, plot.first_scene(lanes), limit)
        self.known = told_scenes(self.found)

    def __contains__(self, value):
        return is_scene(self.program, value, True) and value in self.known

    def __len__(self):
        return len(self.known)

    def scenes(self):
        """All counted scenes that can come, ascending."""
        return list(self.known)

    def arrivals(self, scene):
        """The counted crowds with which an entry of a scene can come to its join, ascending; () if all lanes end."""
        if scene not in self:
            raise NoScene(scene)
        return list(self.known[scene])

    def table(self):
        """All counted scenes with their arrivals, ascending."""
        return table_of(self.known)

    def can_end(self):
        """Whether all lanes can end."""
        return 0 in self.found.sure[self.found.start]

    def rounds(self):
        """The counted scenes that have no arrivals, ascending."""
        return round_scenes(self.known)


def is_counted_table(program, lanes, rule, value):
    """Whether any value is a table of counted scenes for so many lanes."""
    ask_program(program)
    ask_rule(rule, PILE_RULES)
    _ask_lanes(lanes)
    plot = Plot(program, rule, True)
    return is_told_table(plot, plot.first_scene(lanes), value)


def fewest_lanes(program, row, crowd, *, rule="told", limit=4000):
    """The fewest lanes with which a machine does a row with a crowd, and their data, or None."""
    sets = Sets(program, rule=rule, limit=limit)
    ask_seeing_row(program, row)
    if not is_crowd(program, crowd, False) or len(seeing_scenes(sets.found, row, crowd)) == 0:
        return None
    for lanes in range(1, _MOST_COUNTED + 1):
        found = Counted(program, lanes, rule=rule, limit=limit).found
        goals = seeing_scenes(found, row, crowd)
        if len(goals) > 0:
            return (lanes, _datas_to(found, goals, lanes))
    return None


def fewest_that_stand(program, *, rule="told", limit=4000):
    """The fewest lanes with which a machine stands, and their data, or None."""
    if len(stuck_scenes(Sets(program, rule=rule, limit=limit).found)) == 0:
        return None
    for lanes in range(1, _MOST_COUNTED + 1):
        found = Counted(program, lanes, rule=rule, limit=limit).found
        goals = stuck_scenes(found)
        if len(goals) > 0:
            return (lanes, _datas_to(found, goals, lanes))
    return None


def _datas_to(found, goals, lanes):
    march = March(found.plot, lanes)
    come_to(found, goals, march)
    return datas_of(march)


def _ask_lanes(lanes):
    if not is_between(lanes, 1, _MOST_COUNTED):
        raise BadNumber(lanes)
