"""Judges: whether what papers tell is so, without searching."""

from partedlanes.bonds import Bond
from partedlanes.bounds import Bounds
from partedlanes.checks import is_between, is_whole
from partedlanes.digits import are_below, are_values, without_zeros
from partedlanes.graphs import Moves, first_state, stuck_rows
from partedlanes.guards import MOST_STEPS
from partedlanes.lanes import Data
from partedlanes.machines import Machine
from partedlanes.states import is_pair_state


class Judge:
    """What is so of a plain program by a rule; its methods take the parts of papers behind their words, any values."""

    def __init__(self, program, rule):
        self.program = program
        self.rule = rule
        self.moves = Moves(program, rule)
        self.start = first_state(program)

    def is_closed(self, states):
        """Whether no other pair states are come to."""
        if not self._is_state_list(states):
            return False
        known = {state: True for state in states}
        if self.start not in known:
            return False
        return all([later in known for state in known for later in self.moves.steps(state)])

    def never_stands(self, states):
        """The same, and in none of these the machine stands."""
        return self.is_closed(states) and not any([len(stuck_rows(state)) > 0 for state in states])

    def _is_state_list(self, value):
        return isinstance(value, (list, tuple)) and all([is_pair_state(self.moves, state) for state in value])

    def can_stand(self, one, other, steps):
        """Whether a machine of two lanes with these values stands behind just so many steps."""
        if not self._are_digits(one) or not self._are_digits(other) or not is_between(steps, 0, MOST_STEPS):
            return False
        machine = self._machine(one, other)
        told = machine.go(steps)
        return machine.state() == "stands" and all([done[0] == "done" for done in told])

    def _are_digits(self, value):
        if not isinstance(value, tuple) or not are_values(value):
            return False
        return without_zeros(value) == value and are_below(value, self.program.size)

    def _machine(self, one, other):
        return Machine(self.program, [Data(*one), Data(*other)], rule=self.rule)

    def is_broken(self, row, kind, one, other, steps):
        """Whether a machine of two lanes with these values breaks the promise of a row so by this step."""
        if not self._is_group(row) or not isinstance(kind, str) or not is_between(steps, 1, MOST_STEPS):
            return False
        if not self._are_digits(one) or not self._are_digits(other):
            return False
        told = self._machine(one, other).go(steps)
        # If fewer steps could be done, the last one that is told is none.
        if told[-1][0] != "done":
            return False
        return _breach_at_end(Bond(self.program, row), told) == kind

    def _is_group(self, row):
        return is_whole(row) and row in self.program.groups()

    def is_kept(self, row, bounds, unrelated):
        """Whether the promise of a row is kept, as these bounds and pair states show."""
        if not self._is_group(row) or not self._is_state_list(unrelated):
            return False
        ranges = self._read_ranges(bounds)
        if ranges is None:
            return False
        return Bounds(self.moves, Bond(self.program, row), ranges, unrelated).show_kept(self.start)

    def _read_ranges(self, value):
        """A dict of pair states, each with the least and the greatest tie that any value tells, or None."""
        if not isinstance(value, (list, tuple)):
            return None
        found = {}
        for entry in value:
            if not isinstance(entry, tuple) or len(entry) != 3 or not _are_ends(entry[1], entry[2]):
                return None
            if not is_pair_state(self.moves, entry[0]):
                return None
            found[entry[0]] = entry[1:]
        return found if len(found) == len(value) else None


def _are_ends(least, greatest):
    """Whether any values are the least and the greatest tie of a range, None where there is none."""
    if not all([bound is None or is_whole(bound) for bound in (least, greatest)]):
        return False
    return least is None or greatest is None or least <= greatest


def _breach_at_end(bond, told):
    """How the last one of these steps breaks the promise, None if it does not."""
    tie = bond.first_tie
    for _, done, lanes in told[:-1]:
        tie = bond.tie_behind(done, _word_of(lanes), tie)
    return bond.breach(told[-1][1], _word_of(told[-1][2]), tie)


def _word_of(lanes):
    if len(lanes) == 2:
        return "both"
    return "first" if lanes[0] == 0 else "second"
