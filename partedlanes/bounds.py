"""Bounds of ties, as papers tell them, and whether they show that a promise is kept."""

from partedlanes.bonds import outer_ties


class Bounds:
    """What a paper tells for a bond: the least and the greatest tie at pair states, and those of lanes not related."""

    def __init__(self, moves, bond, ranges, strangers):
        self.moves = moves
        self.bond = bond
        self.ranges = ranges
        self.strangers = {state: True for state in strangers}

    def show_kept(self, start):
        """Whether all that can be is told, from the first pair state on, and no step from there breaks the promise."""
        return self._have_start(start) and self._are_closed() and not self._can_break()

    def _have_start(self, state):
        return state in self.strangers if self.bond.first_tie is None else self._have(state, 0, 0)

    def _have(self, state, least, greatest):
        """Whether all ties between these are told for a pair state; None stands for no bound."""
        if state not in self.ranges:
            return False
        low, high = self.ranges[state]
        if low is not None and (least is None or least < low):
            return False
        return high is None or (greatest is not None and greatest <= high)

    def _are_closed(self):
        """Whether with all that is told of a pair state it is told what one step leads to from it."""
        for state, (least, greatest) in self.ranges.items():
            if not self._lead_on(state, least, greatest):
                return False
        return all([self._lead_on_unrelated(state) for state in self.strangers])

    def _lead_on(self, state, least, greatest):
        done = self.moves.does(state)
        if self.bond.renews(done):
            return self._renew(state)
        weight = self.bond.weight(done, state[4])
        low = None if least is None else least + weight
        high = None if greatest is None else greatest + weight
        return all([self._have(later, low, high) for later in self.moves.steps(state)])

    def _lead_on_unrelated(self, state):
        if self.bond.renews(self.moves.does(state)):
            return self._renew(state)
        return self._stay_unrelated(state)

    def _renew(self, state):
        """Whether it is told what is behind the anchor."""
        if state[4] != "both":
            return self._stay_unrelated(state)
        return all([self._have(later, 0, 0) for later in self.moves.steps(state)])

    def _stay_unrelated(self, state):
        return all([later in self.strangers for later in self.moves.steps(state)])

    def _can_break(self):
        nodes = [(state, None) for state in self.strangers]
        for state, (least, greatest) in self.ranges.items():
            nodes += [(state, tie) for tie in outer_ties(least, greatest)]
        return any([self.bond.breach(self.moves.does(state), state[4], tie) is not None for state, tie in nodes])
