"""Fronts: the lanes at the least, or greatest, row go on, by a rule that keeps no pile."""

from partedlanes.standings import Standing


class Front(Standing):
    """A standing whose `lanes_at` are a dict of the rows at which lanes are alive; `row` is that which is done next."""

    def __init__(self, program, digits, is_least):
        Standing.__init__(self, program, digits)
        self.is_least = is_least
        self.lanes_at = {0: self.living}
        self.row = 0

    def copied(self):
        """An equal standing, which goes on by itself."""
        made = Front(self.program, self.digits, self.is_least)
        made.take_over(self)
        made.lanes_at = {row: self.lanes_at[row] for row in self.lanes_at}
        made.row = self.row
        return made

    def do(self):
        """The lanes at the row that is next do it; tells it."""
        index = self.row
        lanes = self.lanes_at.pop(index)
        for later, arm in self.done(index, lanes):
            alive = self.move(later, arm)
            if later in self.lanes_at:
                self.lanes_at[later] = tuple(sorted([*self.lanes_at[later], *alive]))
            elif len(alive) > 0:
                self.lanes_at[later] = alive
        self._look()
        return ("done", index, lanes)

    def _look(self):
        """Looks which row is next: lanes at a meeting wait for all others."""
        rows = self.program.rows
        free = [row for row in self.lanes_at if rows[row][0] != "meet"]
        if len(free) > 0:
            self.row = min(free) if self.is_least else max(free)
        elif len(self.lanes_at) == 1:
            self.row = min(list(self.lanes_at))
        else:
            self.condition = "over" if len(self.living) == 0 else "stands"

    def told_pile(self):
        """The rows at which lanes are alive, ascending, with these."""
        return [(row, self.lanes_at[row]) for row in sorted(list(self.lanes_at))]
