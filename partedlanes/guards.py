"""Refusals that several modules share."""

from partedlanes.checks import is_between
from partedlanes.errors import BadNumber, BadProgram
from partedlanes.programs import Program

MOST_STEPS = 1000


def ask_program(program):
    """Refuses any value that is no program."""
    if not isinstance(program, Program):
        raise BadProgram(program)


def ask_most(most):
    """Refuses any value that is no number of steps that may be asked for at once."""
    if not is_between(most, 0, MOST_STEPS):
        raise BadNumber(most)
