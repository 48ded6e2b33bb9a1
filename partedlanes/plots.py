"""Scenes: the top entries of machines, told by crowds, and how they go on."""

from partedlanes.acts import first_class
from partedlanes.checks import is_between
from partedlanes.crowds import Crowds, is_crowd


class Plot:
    """How the scenes of a program go on, whose branches rejoin as a dict of joins tells.

    A scene is a tuple (row, join, number of its crowd, outside) here. What comes is another scene, or a number
    where the entry is over: that of the crowd at its join, or 0 if all its lanes have ended.

    A take leads to an *open* scene, whose row is -1 less that of the take: its lanes have taken, but what is not
    yet told. It is no scene of the document, but many takes share it, and all that can come of it.
    """

    def __init__(self, program, joins, counted):
        self.program = program
        self.end = program.end
        self.crowds = Crowds(program, counted)
        self.joins = joins
        self.words = [row[0] for row in program.rows]

    def first_scene(self, lanes):
        """The first scene of so many lanes, which only counted crowds tell apart."""
        zeros = first_class(self.program)
        return (0, self.end, self.crowds.code_of((zeros,) * lanes), False)

    def tell(self, scene):
        """A scene as the document has it."""
        return (scene[0], scene[1], self.crowds.crowd_of(scene[2]), scene[3])

    def coded(self, scene):
        """A scene of the document as it stands here."""
        return (scene[0], scene[1], self.crowds.code_of(scene[2]), scene[3])

    def is_open(self, scene):
        """Whether a scene is an open one, of lanes that have taken something."""
        return scene[0] < 0

    def is_trunk(self, scene):
        """Whether a scene has the end as its join, and no lanes outside."""
        return scene[1] == self.end and not scene[3]

    def parts(self, scene):
        """Whether the lanes of a scene part."""
        row = scene[0]
        if row < 0 or self.words[row] != "if":
            return False
        here, there = self.crowds.parted(row, scene[2])
        return here > 0 and there > 0

    def is_stuck(self, scene):
        """Whether a scene is one of a meeting to which not all lanes have come."""
        return scene[3] and scene[0] >= 0 and self.words[scene[0]] == "meet"

    def comings(self, scene):
        """All that can come behind one step of lanes that do not part."""
        row, join, code, outside = scene
        if row < 0:
            return self._shown(-row, join, self.crowds.spread(-1 - row, code), outside)
        word = self.words[row]
        if word == "take":
            return [(-1 - row, join, self.crowds.moved(row, code), outside)]
        if word == "meet" and outside:
            return []
        later = self._way(row, word, code)
        return [self._coming(later, join, self.crowds.moved(row, code), outside)]

    def _shown(self, row, join, codes, outside):
        """What comes of crowds that are at a row with what they have taken."""
        if row == self.end:
            return [0]
        return codes if row == join else [(row, join, code, outside) for code in codes]

    def _way(self, row, word, code):
        """The row at which lanes that do not part go on."""
        if word == "go":
            return self.program.rows[row][1]
        if word == "if":
            return self.program.rows[row][3] if self.crowds.parted(row, code)[1] > 0 else row + 1
        return self.end if word == "end" else row + 1

    def first_arm(self, scene):
        """What comes of the lanes that go to the next row, where lanes part."""
        row, _, code, outside = scene
        to = self.program.rows[row][3]
        return self._coming(row + 1, self.joins[row], self.crowds.parted(row, code)[0], outside or to != self.end)

    def second_arm(self, scene, first):
        """What comes of the lanes that go to the other row; first: the number of the crowd of the first arm."""
        row, _, code, outside = scene
        to = self.program.rows[row][3]
        return self._coming(to, self.joins[row], self.crowds.parted(row, code)[1], outside or first > 0)

    def rest(self, scene, both):
        """What comes behind both arms; both: the number of their crowds together."""
        row, join, _, outside = scene
        later = self.joins[row]
        if later == join:
            return both
        return self._coming(later, join, both, outside)

    def _coming(self, row, join, code, outside):
        if row == self.end or code == 0:
            return 0
        return code if row == join else (row, join, code, outside)


def is_scene(program, value, counted):
    """Whether any value is built as scenes of a program are, whether or not it can come."""
    if not isinstance(value, tuple) or len(value) != 4:
        return False
    row, join, crowd, outside = value
    if not is_between(row, 0, program.end - 1) or not is_between(join, 0, program.end) or row == join:
        return False
    return is_crowd(program, crowd, counted) and (outside is True or outside is False)
