"""Joints: what the arms of scenes that part come to together."""


class Joint:
    """Two sources of crowds, one for each arm, and the crowds that both are together, each with its least cost.

    `ended` tells whether the first one has only lanes that have ended. `holders` is a dict of the scenes that part in
    such arms, and what it costs them to come to both sources.
    """

    def __init__(self, ended, counted):
        self.ended = ended
        self.counted = counted
        self.holders = {}
        self.firsts = {}
        self.seconds = {}
        self.sums = {}

    def cost(self, holder, both):
        """What it costs a scene to come to the ends of both arms with such a crowd."""
        return self.holders[holder] + self.sums[both][0]

    def see_firsts(self, arrivals):
        """These crowds come of the first source, too; tells all sums of which the costs have changed."""
        for arrival in arrivals:
            self.firsts[arrival] = arrivals[arrival]
        return self._paired(arrivals, self.seconds)

    def see_seconds(self, arrivals):
        """The same for the second source."""
        for arrival in arrivals:
            self.seconds[arrival] = arrivals[arrival]
        return self._paired(self.firsts, arrivals)

    def _paired(self, firsts, seconds):
        sums, counted = self.sums, self.counted
        better = {}
        for first, cost in firsts.items():
            for second, more in seconds.items():
                both = first + second if counted else first | second
                if both not in sums or cost + more < sums[both][0]:
                    sums[both] = (cost + more, first, second)
                    better[both] = True
        return list(better)
