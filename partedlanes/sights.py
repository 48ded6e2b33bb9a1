"""Which rows see lanes, and at which scenes."""

from partedlanes.checks import is_whole
from partedlanes.errors import BadNumber


def seeing_rows(program):
    """The rows of group operations and meetings and those that steer, ascending."""
    return sorted([*program.groups(), *program.meets(), *program.steering()])


def ask_seeing_row(program, row):
    """Refuses any value that is no number of such a row."""
    if not is_whole(row) or row not in seeing_rows(program):
        raise BadNumber(row)


def done_scenes(found, row):
    """The scenes of a least table at which lanes do a row."""
    return [scene for scene in found.sure if scene[0] == row and not found.plot.is_stuck(scene)]


def seeing_scenes(found, row, crowd):
    """The scenes at which lanes of a crowd, uncounted, do a row."""
    return [scene for scene in done_scenes(found, row) if _uncounted(found, scene) == list(crowd)]


def _uncounted(found, scene):
    return sorted(set(found.plot.crowds.crowd_of(scene[2])))


def stuck_scenes(found):
    """The scenes at which a machine stands."""
    return [scene for scene in found.sure if found.plot.is_stuck(scene)]
