"""What tables tell of scenes, whoever wrote them, and what they have to tell."""

from partedlanes.crowds import is_crowd
from partedlanes.plots import is_scene
from partedlanes.unions import Unions, arrivals_of_kind, grouped


class Claims:
    """The scenes of a table, each with a length and with a number for each of its arrivals.

    A table that has no numbers is one that tells 0 for all.
    """

    def __init__(self, plot, lengths, numbers):
        self.plot = plot
        self.lengths = lengths
        self.told_numbers = numbers
        self.opened = {}
        self.unions = Unions(plot.crowds.counted)

    def told(self, scene):
        """What is told of a scene, (length, numbers), or None; an open scene has just what it has to have."""
        if scene in self.lengths:
            return (self.lengths[scene], self.told_numbers[scene])
        if not self.plot.is_open(scene):
            return None
        if scene not in self.opened:
            self.opened[scene] = self.asked(scene)
        return self.opened[scene]

    def asked(self, scene):
        """What has to be told of a scene: the least length and numbers, or None if it leads to one that lacks."""
        if self.plot.parts(scene):
            return self._asked_where_they_part(scene)
        ahead = 0 if self.plot.is_open(scene) else 1
        return self._asked_behind([(ahead, later) for later in self.plot.comings(scene)], 0)

    def _asked_behind(self, ways, length):
        """The same for tuples (steps, what comes behind these), and at least this length."""
        numbers = {}
        for ahead, later in ways:
            told = self._told_of(later)
            if told is None:
                return None
            length = max(length, ahead + told[0])
            for arrival, number in told[1].items():
                numbers[arrival] = max(numbers.get(arrival, 0), ahead + number)
        return (length, numbers)

    def _told_of(self, later):
        return (0, {later: 0}) if isinstance(later, int) else self.told(later)

    def _asked_where_they_part(self, scene):
        told = self.arms(scene)
        if told is None:
            return None
        length, sums = told
        return self._asked_behind([(1 + sums[both][0], self.plot.rest(scene, both)) for both in sums], length)

    def arms(self, scene):
        """What is told of the arms where lanes part, or None: (length, sums).

        The length is that as far as the second arm; sums is a dict of the crowds of both arms together, each with
        the greatest number of steps within both, and the crowds of the arms with which there are so many.
        """
        firsts = self._told_of(self.plot.first_arm(scene))
        if firsts is None:
            return None
        length = 1 + firsts[0]
        sums = {}
        for ended in (True, False):
            some = arrivals_of_kind(firsts[1], ended)
            if len(some) > 0:
                seconds = self._told_of(self.plot.second_arm(scene, 0 if ended else 1))
                if seconds is None:
                    return None
                length = max(length, 1 + max(list(some.values())) + seconds[0])
                self._add_sums(sums, some, seconds[1])
        return (length, sums)

    def _add_sums(self, sums, firsts, seconds):
        for number, some in grouped(firsts).items():
            for more, others in grouped(seconds).items():
                for both, arms in self.unions.together(some, others).items():
                    if both not in sums or sums[both][0] < number + more:
                        sums[both] = (number + more, *arms)


def read_arrivals(plot, value):
    """The number of each crowd of a list of crowds and (), or None if any value is no such list."""
    counted = plot.crowds.counted
    if not isinstance(value, list):
        return None
    if not all([is_arrival(plot.program, arrival, counted) for arrival in value]):
        return None
    return {plot.crowds.code_of(arrival): 0 for arrival in value}


def is_arrival(program, value, counted):
    """Whether any value is a crowd or ()."""
    return (isinstance(value, tuple) and len(value) == 0) or is_crowd(program, value, counted)


def read_scenes(plot, value, parts):
    """A dict of scenes and what stands behind them in any value, or None.

    It is None if the value is no list of tuples of so many parts, the first one a scene, none twice.
    """
    if not isinstance(value, list):
        return None
    found = {}
    for entry in value:
        if not isinstance(entry, tuple) or len(entry) != parts:
            return None
        if not is_scene(plot.program, entry[0], plot.crowds.counted):
            return None
        found[plot.coded(entry[0])] = entry[1:]
    return found if len(found) == len(value) else None


def is_told_table(plot, start, value):
    """Whether any value is a table of scenes, with this first one."""
    scenes = read_scenes(plot, value, 2)
    if scenes is None or start not in scenes:
        return False
    numbers = {scene: read_arrivals(plot, scenes[scene][0]) for scene in scenes}
    if any([numbers[scene] is None for scene in numbers]):
        return False
    claims = Claims(plot, {scene: 0 for scene in scenes}, numbers)
    for scene in scenes:
        asked = claims.asked(scene)
        if asked is None or any([arrival not in numbers[scene] for arrival in asked[1]]):
            return False
    return True
