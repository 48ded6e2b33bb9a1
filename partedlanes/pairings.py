"""Pairings: sets of the crowds with which arms come to their ends, and what two arms come to together."""

from partedlanes.sieves import Sieve, codes_of


class Pairings:
    """Sets of crowds, each told by a number whose bits stand for crowds; the first one stands for no lanes at all.

    Numbers of counted crowds are too great to be places of bits, so these have places in the order in which they come.
    """

    def __init__(self, plot):
        self.counted = plot.crowds.counted
        self.sieve = None if self.counted else Sieve(plot.program)
        self.ends = [0]
        self.places = {0: 0}
        self.joints = {}
        self.known = {}

    def only(self, code):
        """The set of one crowd."""
        if not self.counted:
            return 1 << code
        if code not in self.places:
            self.places[code] = len(self.ends)
            self.ends.append(code)
        return 1 << self.places[code]

    def codes(self, some):
        """The numbers of the crowds of a set."""
        return [self.ends[place] for place in codes_of(some)] if self.counted else codes_of(some)

    def joined(self, arms, firsts, seconds):
        """The set of what two arms come to together, if they come to these sets; only what is new is paired."""
        old_firsts, old_seconds, both = self.joints.get(arms, (0, 0, 0))
        both = both | self.together(firsts & ~old_firsts, seconds)
        both = both | self.together(old_firsts, seconds & ~old_seconds)
        self.joints[arms] = (firsts, seconds, both)
        return both

    def together(self, firsts, seconds):
        """The set of what one crowd of a set and one of another are together."""
        if firsts == 0 or seconds == 0:
            return 0
        if (firsts, seconds) not in self.known:
            both = 0
            for first in self.codes(firsts):
                both = both | self._with(first, seconds)
            self.known[(firsts, seconds)] = both
        return self.known[(firsts, seconds)]

    def _with(self, first, seconds):
        if not self.counted:
            return self.sieve.joined(seconds, first)
        both = 0
        for second in self.codes(seconds):
            both = both | self.only(first + second)
        return both
