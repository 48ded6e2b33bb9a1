"""Which rows see lanes."""

from partedlanes.checks import is_whole
from partedlanes.errors import BadNumber

SEEING = ("group", "meet", "any", "all", "same")


def seeing_rows(program):
    """The rows of group operations and meetings and those that steer, ascending."""
    return [index for index, row in enumerate(program.rows) if row[0] in SEEING]


def ask_seeing_row(program, row):
    """Refuses any value that is no number of such a row."""
    if not is_whole(row) or row not in seeing_rows(program):
        raise BadNumber(row)
