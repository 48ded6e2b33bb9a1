"""Marches: lanes, as many as are told, that do what a machine does on a trek that tells counted crowds."""

from partedlanes.acts import classes_behind, first_class, next_row


class March:
    """A carrier that keeps each lane; a bunch is a list of lanes."""

    def __init__(self, plot, lanes):
        self.plot = plot
        self.bunches = [list(range(lanes))]
        self.kinds = [first_class(plot.program)] * lanes
        self.drawn = [[] for _ in range(lanes)]

    def do(self, scene, code):
        """The top bunch does its row."""
        bunch = self.bunches[-1]
        if self.plot.is_open(scene):
            self._show(bunch, -1 - scene[0], code)
        else:
            kinds = [self.kinds[lane] for lane in bunch]
            later = classes_behind(self.plot.program, scene[0], kinds, (0,) * len(kinds))
            for lane, kind in zip(bunch, later):
                self.kinds[lane] = kind
        if code == 0:
            self.bunches[-1] = []

    def _show(self, bunch, row, code):
        """The lanes of a bunch have taken values with which they are this crowd, 0s if they have ended."""
        program = self.plot.program
        place = program.places[program.rows[row][1]]
        crowd = self.plot.crowds.crowd_of(code) if code > 0 else [self.kinds[lane] for lane in bunch]
        zeros = classes_behind(program, row, crowd, (0,) * len(crowd))
        # Lanes alike but for what they take come one behind another, in both.
        lanes = sorted([(self.kinds[lane], lane) for lane in bunch])
        kinds = sorted([(zero, kind) for zero, kind in zip(zeros, crowd)])
        for (_, lane), (_, kind) in zip(lanes, kinds):
            self.kinds[lane] = kind
            self.drawn[lane].append(kind[place])

    def part(self, scene):
        """The top bunch does its branch and parts."""
        bunch = self.bunches.pop()
        program = self.plot.program
        rows = {lane: next_row(program, scene[0], self.kinds[lane]) for lane in bunch}
        here = [lane for lane in bunch if rows[lane] == scene[0] + 1]
        there = [lane for lane in bunch if rows[lane] != scene[0] + 1]
        for arm in (there, here):
            ended = len(arm) > 0 and rows[arm[0]] == program.end
            self.bunches.append([] if ended else arm)

    def swap(self):
        """The two bunches on top change their places."""
        top, below = self.bunches.pop(), self.bunches.pop()
        self.bunches += [top, below]

    def rejoin(self):
        """The two bunches on top become one."""
        one, other = self.bunches.pop(), self.bunches.pop()
        self.bunches.append([*one, *other])

    def takings(self):
        """What each of the lanes takes: lists of values, one for each lane."""
        return [list(values) for values in self.drawn]
