"""Fewest lanes: scenes of just so many lanes, and how few lanes show what can come."""

from partedlanes.checks import is_between
from partedlanes.claims import is_told_table
from partedlanes.counts import MOST_COUNTED, counted_table, fewest_shown
from partedlanes.crowds import is_crowd
from partedlanes.errors import BadNumber, NoScene, TooMany
from partedlanes.guards import PILE_RULES, ask_limit, ask_program, ask_rule
from partedlanes.plots import Plot, is_scene
from partedlanes.roads import joins_of
from partedlanes.showings import lanes_that_get_stuck, lanes_to_crowd
from partedlanes.sieves import many_of
from partedlanes.sights import ask_seeing_row
from partedlanes.sketches import sketch_of
from partedlanes.tellings import told_arrivals, told_scenes


class Counted:
    """The counted scenes of a program that can come with just so many lanes, and their arrivals."""

    def __init__(self, program, lanes, *, rule="told", limit=4000):
        ask_program(program)
        ask_rule(rule, PILE_RULES)
        _ask_lanes(lanes)
        ask_limit(limit)
        self.program = program
        self.found = counted_table(program, rule, lanes, limit)
        self.plot = self.found.plot
        self.start = self.plot.first_scene(lanes)

    def __contains__(self, value):
        return is_scene(self.program, value, True) and self.plot.coded(value) in self.found.sure

    def __len__(self):
        return len(self._scenes())

    def _scenes(self):
        return [scene for scene in self.found.sure if not self.plot.is_open(scene)]

    def scenes(self):
        """All counted scenes that can come, ascending."""
        return told_scenes(self.plot, self._scenes())

    def arrivals(self, scene):
        """The counted crowds with which an entry of a scene can come to its join, ascending; () if all lanes end."""
        if scene not in self:
            raise NoScene(scene)
        return self._arrivals(self.plot.coded(scene))

    def _arrivals(self, scene):
        return told_arrivals(self.plot, self.found.pairings.codes(self.found.sure[scene]))

    def table(self):
        """All counted scenes with their arrivals, ascending."""
        return sorted([(self.plot.tell(scene), self._arrivals(scene)) for scene in self._scenes()])

    def can_end(self):
        """Whether all lanes can end."""
        return self.found.sure[self.start] > 0

    def rounds(self):
        """The counted scenes that have no arrivals, ascending."""
        return told_scenes(self.plot, [scene for scene in self._scenes() if self.found.sure[scene] == 0])


def is_counted_table(program, lanes, rule, value):
    """Whether any value is a table of counted scenes for so many lanes."""
    ask_program(program)
    ask_rule(rule, PILE_RULES)
    _ask_lanes(lanes)
    plot = Plot(program, joins_of(program, rule), True)
    return is_told_table(plot, plot.first_scene(lanes), value)


def fewest_lanes(program, row, crowd, *, rule="told", limit=4000):
    """The fewest lanes with which a machine does a row with a crowd, and their data, or None."""
    sketch = sketch_of(program, rule, limit)
    ask_seeing_row(program, row)
    if not is_crowd(program, crowd, False):
        return None
    code = sketch.sieve.code_of(crowd)
    if code not in sketch.done_at(row):
        return None
    try:
        datas = lanes_to_crowd(sketch, row, code)
    except TooMany:
        datas = None
    return fewest_shown(sketch, row, crowd, datas, len(crowd))


def fewest_that_stand(program, *, rule="told", limit=4000):
    """The fewest lanes with which a machine stands, and their data, or None."""
    sketch = sketch_of(program, rule, limit)
    goals = sketch.stuck()
    if len(goals) == 0:
        return None
    try:
        datas = lanes_that_get_stuck(sketch)
    except TooMany:
        datas = None
    # At least one lane is not at the meeting.
    return fewest_shown(sketch, None, (), datas, 1 + min([many_of(goal[2]) for goal in goals]))


def _ask_lanes(lanes):
    if not is_between(lanes, 1, MOST_COUNTED):
        raise BadNumber(lanes)
