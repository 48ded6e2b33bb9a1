"""Turns: what lanes do by the blocks of a source alone."""

from partedlanes.blocks import rows_of
from partedlanes.standings import Standing


class Turns:
    """Lanes of a source, which do up to so many statements; `over` tells when nothing more is done.

    Rows are those of the program that the source becomes; a block begins at one of them.
    """

    def __init__(self, program, datas, most):
        self.standing = Standing(program, [data.digits for data in datas])
        self.everybody = self.standing.living
        self.left = most
        self.over = False

    def told(self):
        """All rows that see lanes and were done, with these lanes, in order."""
        return list(self.standing.log)

    def do_block(self, block, index, lanes):
        """Lanes do a block; tells those that come to its end, and those that leave the loop around it."""
        gone = ()
        for statement in block:
            if len(lanes) > 0 and self._may_go_on():
                lanes, leaving = self._do(statement, index, lanes)
                gone = (*gone, *leaving)
            index += rows_of(statement)
        return (lanes, gone)

    def _may_go_on(self):
        """Whether one statement, or one turn of a loop, more may be done; it counts."""
        self.over = self.over or self.left == 0
        self.left -= 1
        return not self.over

    def _do(self, statement, index, lanes):
        word = statement[0]
        if word == "while":
            return (self._do_loop(statement[3], index, lanes), ())
        if word == "meet" and lanes != self.everybody:
            self.over = True
            return (lanes, ())
        others, there = self._parted(index, lanes)
        if word == "if":
            return (self._do_arms(statement, index, others, there), ())
        return (others, there)

    def _parted(self, index, lanes):
        """Lanes do a row; tells those that go to the next one, and those that do not."""
        arms = self.standing.done(index, lanes)
        others = [lane for row, arm in arms if row == index + 1 for lane in arm]
        there = [lane for row, arm in arms if row != index + 1 for lane in arm]
        return (tuple(others), tuple(there))

    def _do_arms(self, statement, index, others, there):
        to = self.standing.program.rows[index][3]
        second, _ = self.do_block(statement[4], index + 1, others)
        first, _ = self.do_block(statement[3], to, there)
        return tuple(sorted([*second, *first]))

    def _do_loop(self, block, index, lanes):
        """The lanes that go on behind a loop, when all have left it."""
        waiting = []
        while len(lanes) > 0 and not self.over:
            others, lanes = self._parted(index, lanes)
            waiting.extend(others)
            if len(lanes) > 0 and self._may_go_on():
                lanes, gone = self.do_block(block, index + 2, lanes)
                waiting.extend(gone)
        return tuple(sorted(waiting))
