"""Sketches: which scenes can come, found without their arrivals where these are not asked for."""

from partedlanes.errors import TooMany
from partedlanes.guards import PILE_RULES, ask_limit, ask_program, ask_rule
from partedlanes.least import Least
from partedlanes.plots import Plot
from partedlanes.roads import joins_of
from partedlanes.sieves import Sieve, codes_of, many_of
from partedlanes.tellings import told_arrivals

# All registers are 0 at the beginning: there is only the first class.
FIRST = 1


def sketch_of(program, rule, limit):
    """The sketch of any values; refuses those of which there is none."""
    ask_program(program)
    ask_rule(rule, PILE_RULES)
    ask_limit(limit)
    return Sketch(program, rule, limit)


class Sketch:
    """The scenes of a program that can come, for any number of lanes.

    Those of the *trunk*, with the end as their join and no lanes outside, are told by sets of crowds: `trunk` is a dict
    of rows and these. Where lanes part, the others are the scenes of the `arms`, a least table; it is None if no lanes
    ever part. `parting` is a dict of rows with the sets of the crowds of the trunk that part there.
    """

    def __init__(self, program, rule, limit):
        self.program = program
        self.end = program.end
        self.rule = rule
        self.limit = limit
        self.sieve = Sieve(program)
        self.trunk = {}
        self.parting = {}
        self.start = (0, program.end, FIRST, False)
        self.plot = None
        self.arms = None
        self.full = None
        self.endings = None
        self._reach([(0, 1 << FIRST)])
        self._ask_limit()

    def _reach(self, left):
        """Finds all that comes of crowds of the trunk; left: tuples (row, set)."""
        while len(left) > 0:
            index, some = left.pop()
            fresh = some & ~self.trunk.get(index, 0) if index < self.end else 0
            if fresh > 0:
                self.trunk[index] = self.trunk.get(index, 0) | fresh
                left.extend(self.sieve.onward(index, fresh))
                parted = self.sieve.parted(index, fresh)
                if parted > 0:
                    self.parting[index] = self.parting.get(index, 0) | parted
                    left.extend(self._behind_parted(index, codes_of(parted)))

    def _behind_parted(self, index, codes):
        """Tuples (row, set) of what comes in the trunk of crowds that part at a row."""
        if self.arms is None:
            self.plot = Plot(self.program, joins_of(self.program, self.rule), False)
            self.arms = Least(self.plot, self.limit, False)
        by_arms = {}
        for code in codes:
            scene = (index, self.end, code, False)
            by_arms.setdefault(self.plot.first_arm(scene), []).append(scene)
        found = self._need(list(by_arms))
        for first, scenes in by_arms.items():
            # If lanes of the trunk go on alone, those of the other arm have ended.
            firsts = 0 if self._is_trunk(first) else self.arms.arrivals_of(first)
            found += [*self._behind_first(scenes, firsts & 1, 0), *self._behind_first(scenes, firsts & ~1, 1)]
        return found

    def _behind_first(self, scenes, firsts, code):
        """The same where the first arm of scenes comes to its end with a set of crowds; code: that of one of them."""
        if firsts == 0:
            return []
        seconds = [self.plot.second_arm(scene, code) for scene in scenes]
        found = self._need(seconds)
        some = 0
        for second in seconds:
            some = some | (0 if self._is_trunk(second) else self.arms.arrivals_of(second))
        both = self.arms.pairings.together(firsts, some)
        return [*found, (self.plot.joins[scenes[0][0]], both & ~1)]

    def _is_trunk(self, arm):
        return not isinstance(arm, int) and self.plot.is_trunk(arm)

    def _need(self, arms):
        """Finds what comes of arms; tells those that are in the trunk, and all others of it that come of arms."""
        found = [(arm[0], 1 << arm[2]) for arm in arms if self._is_trunk(arm)]
        for arm in arms:
            if not isinstance(arm, int) and not self.plot.is_trunk(arm):
                self.arms.need(arm)
        self.arms.settle()
        found += [(scene[0], 1 << scene[2]) for scene in self.arms.in_trunk]
        self.arms.in_trunk = []
        return found

    def holds(self, scene):
        """Whether a scene can come."""
        if scene[1] == self.end and not scene[3]:
            return (self.trunk.get(scene[0], 0) >> scene[2]) & 1 == 1
        return self.arms is not None and scene in self.arms.sure

    def all_scenes(self):
        """All scenes that can come."""
        found = [(index, self.end, code, False) for index in self.trunk for code in codes_of(self.trunk[index])]
        return found if self.arms is None else [*found, *self._scenes_of_arms()]

    def _scenes_of_arms(self):
        return [scene for scene in self.arms.sure if scene[0] >= 0 and not self.plot.is_trunk(scene)]

    def _ask_limit(self):
        """Refuses more scenes and arrivals than are asked for; each scene of the trunk has one arrival at most."""
        many = sum([many_of(self.trunk[index]) for index in self.trunk])
        others = 0 if self.arms is None else self.arms.many
        if many + others > self.limit:
            raise TooMany(self.limit)
        if 2 * many + others <= self.limit:
            return
        if self.arms is not None:
            self.whole_table()
        elif many + sum([many_of(self._that_end(index)) for index in self.trunk]) > self.limit:
            raise TooMany(self.limit)

    def _that_end(self, index):
        """The set of those crowds of the trunk at a row of which all lanes can end, if none ever part."""
        if self.endings is None:
            self.endings = self.that_come_to({self.end: self.sieve.every}, False)
        return self.endings.get(index, 0)

    def that_come_to(self, goals, by_arms):
        """A dict of rows with crowds of the trunk: all that can come to goals, which are told so, too.

        Crowds that part are among them if something of what comes behind them is, or if by_arms tells so for all.
        """
        found = {index: goals[index] for index in goals}
        grown = True
        while grown:
            grown = False
            for index in reversed(list(self.trunk)):
                some = self.trunk[index] & self.sieve.before(index, found)
                if index in self.parting and (by_arms or self._is_near(index, found)):
                    some = some | self.parting[index]
                if some & ~found.get(index, 0) > 0:
                    found[index] = found.get(index, 0) | some
                    grown = True
        return found

    def _is_near(self, index, found):
        return any([found.get(row, 0) > 0 for row in (self.plot.joins[index], *self.program.ways(index))])

    def full_plot(self):
        """The plot of all scenes; where no lanes part, joins do not matter."""
        if self.plot is None:
            self.plot = Plot(self.program, {}, False)
        return self.plot

    def whole_table(self):
        """The least table of all scenes, with their arrivals."""
        if self.full is None:
            self.full = Least(self.full_plot(), self.limit, True)
            self.full.need(self.start)
            self.full.settle()
        return self.full

    def arrivals(self, scene):
        """The numbers of the crowds with which a scene comes to its end."""
        if self.arms is None:
            return [0] if (self._that_end(scene[0]) >> scene[2]) & 1 == 1 else []
        return self.whole_table().pairings.codes(self.whole_table().sure[scene])

    def told(self, scenes):
        """Tuples of scenes and their arrivals as the document has them, ascending."""
        plot = self.full_plot()
        return sorted([(plot.tell(scene), told_arrivals(plot, self.arrivals(scene))) for scene in scenes])

    def coded(self, scene):
        """A scene of the document as it stands here."""
        return (scene[0], scene[1], self.sieve.code_of(scene[2]), scene[3])

    def crowd_of(self, code):
        """The classes of the crowd that a number tells."""
        return [kind for place, kind in enumerate(self.sieve.kinds) if (code >> place) & 1 == 1]

    def done_at(self, index):
        """The numbers of the crowds that do a row."""
        found = codes_of(self.trunk.get(index, 0))
        if self.arms is None:
            return found
        others = [scene[2] for scene in self._scenes_of_arms() if scene[0] == index and not self.plot.is_stuck(scene)]
        return list({code: True for code in [*found, *others]})

    def scenes_at(self, index, code):
        """The scenes at which a crowd does a row."""
        return [
            scene for scene in self.all_scenes()
            if scene[0] == index and scene[2] == code and not self.plot.is_stuck(scene)
        ]

    def stuck(self):
        """The scenes at which a machine stands."""
        return [] if self.arms is None else [scene for scene in self.arms.sure if self.plot.is_stuck(scene)]
