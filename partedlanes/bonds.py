"""Bonds: what the rows that two lanes do make of their tie for a group operation.

A tie is the count of lane 0 less that of lane 1 where they are related, None where they are not. A word tells who does
a row: "both", "first" (lane 0 alone) or "second" (lane 1 alone).
"""


class Bond:
    """The group operation of a row, and its anchor."""

    def __init__(self, program, row):
        self.row = row
        self.anchor = program.rows[row][2]
        self.first_tie = 0 if self.anchor is None else None

    def renews(self, done):
        """Whether lanes begin anew, or end, to be related behind a row that is done."""
        return self.anchor is not None and done == self.anchor

    def weight(self, done, word):
        """By how much a row changes a tie that lasts."""
        if done != self.row or word == "both":
            return 0
        return 1 if word == "first" else -1

    def tie_behind(self, done, word, tie):
        """The tie behind a row."""
        if self.renews(done):
            return 0 if word == "both" else None
        return None if tie is None else tie + self.weight(done, word)

    def breach(self, done, word, tie):
        """How a row that is done with a tie breaks the promise, None if it does not."""
        if done != self.row:
            return None
        if word == "both":
            return None if tie == 0 else "stranger"
        if tie is None:
            return None
        ahead = tie if word == "first" else -tie
        return "missed" if ahead < 0 else None


def outer_ties(least, greatest):
    """Two ties that break a promise if any tie between these bounds does; None stands for no bound."""
    # Without a bound ties grow beyond any number, and 1 and -1 break what these do.
    return (-1 if least is None else least, 1 if greatest is None else greatest)
