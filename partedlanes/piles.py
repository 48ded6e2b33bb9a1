"""Piles of entries (row, join, lanes): who goes on and who waits, by a rule that keeps a pile."""

from partedlanes.standings import Standing


class Pile(Standing):
    """A standing whose `entries` are a pile, the top one last, as it is ahead of the next step."""

    def __init__(self, program, digits, joins):
        Standing.__init__(self, program, digits)
        self.joins = joins
        self.entries = [(0, program.end, self.living)]

    def copied(self):
        """An equal standing, which goes on by itself."""
        made = Pile(self.program, self.digits, self.joins)
        made.take_over(self)
        made.entries = list(self.entries)
        return made

    def do(self):
        """The lanes of the top entry do its row; tells it."""
        many = len(self.living)
        index, join, lanes = self.entries.pop()
        arms = self.done(index, lanes)
        if len(arms) > 1:
            # Where the join of the entry is that of the branch, nobody has to wait for the arms in an entry below.
            if self.joins[index] != join:
                self.entries.append((self.joins[index], join, lanes))
            join = self.joins[index]
        for later, arm in arms[::-1]:
            self.entries.append((later, join, self.move(later, arm)))
        if len(self.living) < many:
            self.entries = [(row, rejoin, self._alive_of(some)) for row, rejoin, some in self.entries]
        self._settle()
        return ("done", index, lanes)

    def _alive_of(self, lanes):
        return tuple([lane for lane in lanes if lane in self.living])

    def _settle(self):
        """Takes off entries that are over, and looks whether the top one goes on."""
        entries = self.entries
        row, join, lanes = entries[-1]
        while len(entries) > 1 and (row == join or len(lanes) == 0):
            entries.pop()
            row, join, lanes = entries[-1]
        if len(lanes) == 0:
            self.condition = "over"
        elif self.program.rows[row][0] == "meet" and len(lanes) < len(self.living):
            self.condition = "stands"

    def told_pile(self):
        """The entries, the top one last."""
        return list(self.entries)
