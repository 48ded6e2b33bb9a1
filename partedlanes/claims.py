"""What tables tell of scenes, whoever wrote them, and what they have to tell."""

from partedlanes.readings import read_table
from partedlanes.unions import Unions, arrivals_of_kind, grouped


class Claims:
    """The scenes of a table, each with a length and with a number for each of its arrivals.

    A table that has no numbers is one that tells 0 for all.
    """

    def __init__(self, plot, lengths, numbers):
        self.plot = plot
        self.lengths = lengths
        self.told_numbers = numbers
        self.opened = {}
        self.unions = Unions(plot.crowds.counted)

    def told(self, scene):
        """What is told of a scene, (length, numbers), or None; an open scene has just what it has to have."""
        if scene in self.lengths:
            return (self.lengths[scene], self.told_numbers[scene])
        if not self.plot.is_open(scene):
            return None
        if scene not in self.opened:
            self.opened[scene] = self.asked(scene)
        return self.opened[scene]

    def asked(self, scene):
        """What has to be told of a scene: the least length and numbers, or None if it leads to one that lacks."""
        if self.plot.parts(scene):
            return self._asked_where_they_part(scene)
        ahead = 0 if self.plot.is_open(scene) else 1
        return self.asked_behind([(ahead, later) for later in self.plot.comings(scene)], 0)

    def asked_behind(self, ways, length):
        """The same for tuples (steps, what comes behind these), and at least this length."""
        numbers = {}
        for ahead, later in ways:
            told = self._told_of(later)
            if told is None:
                return None
            length = max(length, ahead + told[0])
            for arrival, number in told[1].items():
                numbers[arrival] = max(numbers.get(arrival, 0), ahead + number)
        return (length, numbers)

    def _told_of(self, later):
        return (0, {later: 0}) if isinstance(later, int) else self.told(later)

    def _asked_where_they_part(self, scene):
        told = self.told_of_arms(scene)
        if told is None:
            return None
        length, sums = told
        return self.asked_behind([(1 + sums[both][0], self.plot.rest(scene, both)) for both in sums], length)

    def told_of_arms(self, scene):
        """What is told of the arms where lanes part, or None: (length, sums).

        The length is that as far as the second arm; sums is a dict of the crowds of both arms together, each with
        the greatest number of steps within both, and the crowds of the arms with which there are so many.
        """
        firsts = self._told_of(self.plot.first_arm(scene))
        if firsts is None:
            return None
        length = 1 + firsts[0]
        sums = {}
        for ended in (True, False):
            some = arrivals_of_kind(firsts[1], ended)
            if len(some) > 0:
                seconds = self._told_of(self.plot.second_arm(scene, 0 if ended else 1))
                if seconds is None:
                    return None
                length = max(length, 1 + max(list(some.values())) + seconds[0])
                self._add_sums(sums, some, seconds[1])
        return (length, sums)

    def _add_sums(self, sums, firsts, seconds):
        for number, some in grouped(firsts).items():
            for more, others in grouped(seconds).items():
                for both, arms in self.unions.together(some, others).items():
                    if both not in sums or sums[both][0] < number + more:
                        sums[both] = (number + more, *arms)


def claims_of(plot, numbers):
    """The claims of a table that has no numbers; numbers: a dict of scenes, each with a dict of its arrivals."""
    return Claims(plot, {scene: 0 for scene in numbers}, numbers)


def tells_enough(claims, scene):
    """Whether all arrivals that have to be told of a scene are told, and all scenes that it asks for."""
    asked = claims.asked(scene)
    numbers = claims.told(scene)[1]
    return asked is not None and all([arrival in numbers for arrival in asked[1]])


def is_told_table(plot, start, value):
    """Whether any value is a table of scenes, with this first one."""
    numbers = read_table(plot, value)
    if numbers is None or start not in numbers:
        return False
    claims = claims_of(plot, numbers)
    return all([tells_enough(claims, scene) for scene in numbers])
