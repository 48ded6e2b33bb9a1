"""Sets: the least table of the scenes that can come, for any number of lanes with any data."""

from partedlanes.errors import NoScene
from partedlanes.guards import PILE_RULES, ask_limit, ask_program, ask_rule
from partedlanes.least import Least
from partedlanes.plots import Plot, is_scene
from partedlanes.tellings import round_scenes, table_of, told_scenes


class Sets:
    """The scenes of a program that can come, and their arrivals."""

    def __init__(self, program, *, rule="told", limit=4000):
        ask_program(program)
        ask_rule(rule, PILE_RULES)
        ask_limit(limit)
        plot = Plot(program, rule, False)
        self.program = program
        self.found = Least(plot, plot.first_scene(1), limit)
        self.known = told_scenes(self.found)

    def __contains__(self, value):
        return is_scene(self.program, value, False) and value in self.known

    def __len__(self):
        return len(self.known)

    def scenes(self):
        """All scenes that can come, ascending."""
        return list(self.known)

    def arrivals(self, scene):
        """The crowds with which an entry of a scene can come to its join, ascending; () if all its lanes end."""
        if scene not in self:
            raise NoScene(scene)
        return list(self.known[scene])

    def table(self):
        """All scenes with their arrivals, ascending."""
        return table_of(self.known)

    def can_end(self):
        """Whether all lanes can end."""
        return 0 in self.found.sure[self.found.start]

    def rounds(self):
        """The scenes that have no arrivals, ascending."""
        return round_scenes(self.known)
