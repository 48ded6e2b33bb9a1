"""What lanes of a program are given to take."""

from partedlanes.digits import are_below
from partedlanes.lanes import Data

MOST_LANES = 40


def is_load(program, value):
    """Whether any value is data whose values are those of a program."""
    return isinstance(value, Data) and are_below(value.digits, program.size)


def are_datas(program, value):
    """Whether any value is a list or tuple of as many data of a program as a machine may have lanes."""
    if not isinstance(value, (list, tuple)) or not 1 <= len(value) <= MOST_LANES:
        return False
    return all([is_load(program, data) for data in value])
