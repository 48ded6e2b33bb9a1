"""Pair states, told by any values."""

from partedlanes.checks import is_between, is_whole
from partedlanes.guards import PILE_RULES

WORDS = ("first", "second", "first stands", "second stands")


def is_shaped(value):
    """Whether any value is built as pair states are; only such a one is looked up."""
    if not isinstance(value, tuple) or len(value) != 6:
        return False
    if not isinstance(value[4], str) or not all([is_whole(value[place]) for place in (0, 2, 5)]):
        return False
    return all([
        isinstance(registers, tuple) and all([is_whole(part) for part in registers])
        for registers in (value[1], value[3])
    ])


def is_pair_state(moves, value):
    """Whether any value is a pair state of the program and the rule of these moves, also if it is not come to."""
    if not is_shaped(value):
        return False
    end, kinds = moves.end, moves.kinds
    if not all([is_between(value[place], 0, end) for place in (0, 2, 5)]):
        return False
    return value[1] in kinds and value[3] in kinds and _is_next(moves, value[0], value[2], value[4:])


def _is_next(moves, row, other, ahead):
    """Whether lanes at two rows can go on as the last two parts of a pair state tell."""
    word, join = ahead
    if row == moves.end or other == moves.end or moves.rule not in PILE_RULES:
        return word == moves.next_word(row, other) and join == moves.end
    if word == "both":
        return row == other and join == moves.end
    if word not in WORDS:
        return False
    top = row if word.startswith("first") else other
    return top != join and moves.is_meeting(top) == word.endswith("stands")
