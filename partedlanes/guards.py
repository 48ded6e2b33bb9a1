"""Refusals that several modules share."""

from partedlanes.checks import is_between, is_whole
from partedlanes.errors import BadNumber, BadProgram, BadRule, NotPlain
from partedlanes.programs import Program

MOST_STEPS = 1000
MOST_LIMIT = 20000
PILE_RULES = ("told", "first")
RULES = ("told", "first", "least", "greatest")


def ask_program(program):
    """Refuses any value that is no program."""
    if not isinstance(program, Program):
        raise BadProgram(program)


def ask_no_steering(program):
    """Refuses any value that is no program, and programs with rows that steer."""
    ask_program(program)
    if not program.is_plain():
        raise NotPlain(program.steering()[0])


def ask_rule(rule, rules):
    """Refuses any value that is none of these rules."""
    if not isinstance(rule, str) or rule not in rules:
        raise BadRule(rule)


def ask_row(program, row):
    """Refuses any value that is no number of a row."""
    if not is_between(row, 0, program.end - 1):
        raise BadNumber(row)


def ask_group(program, row):
    """Refuses any value that is no number of a group operation."""
    if not is_whole(row) or row not in program.groups():
        raise BadNumber(row)


def ask_most(most):
    """Refuses any value that is no number of steps that may be asked for at once."""
    if not is_between(most, 0, MOST_STEPS):
        raise BadNumber(most)


def ask_limit(limit):
    """Refuses any value that is no number of scenes and arrivals that a table may have."""
    if not is_between(limit, 1, MOST_LIMIT):
        raise BadNumber(limit)
