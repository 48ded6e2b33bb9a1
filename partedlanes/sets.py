"""Sets: the least table of the scenes that can come, for any number of lanes with any data."""

from partedlanes.errors import NoScene
from partedlanes.plots import is_scene
from partedlanes.sketches import sketch_of
from partedlanes.tellings import told_arrivals, told_scenes


class Sets:
    """The scenes of a program that can come, and their arrivals."""

    def __init__(self, program, *, rule="told", limit=4000):
        self.program = program
        self.sketch = sketch_of(program, rule, limit)

    def __contains__(self, value):
        return is_scene(self.program, value, False) and self.sketch.holds(self.sketch.coded(value))

    def __len__(self):
        return len(self.sketch.all_scenes())

    def scenes(self):
        """All scenes that can come, ascending."""
        return told_scenes(self.sketch.full_plot(), self.sketch.all_scenes())

    def arrivals(self, scene):
        """The crowds with which an entry of a scene can come to its join, ascending; () if all its lanes end."""
        if scene not in self:
            raise NoScene(scene)
        return told_arrivals(self.sketch.full_plot(), self.sketch.arrivals(self.sketch.coded(scene)))

    def table(self):
        """All scenes with their arrivals, ascending."""
        return self.sketch.told(self.sketch.all_scenes())

    def can_end(self):
        """Whether all lanes can end."""
        return len(self.sketch.arrivals(self.sketch.start)) > 0

    def rounds(self):
        """The scenes that have no arrivals, ascending."""
        some = [scene for scene in self.sketch.all_scenes() if len(self.sketch.arrivals(scene)) == 0]
        return told_scenes(self.sketch.full_plot(), some)
