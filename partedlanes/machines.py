"""Machines: lanes that run one program together, part and rejoin."""

from partedlanes.errors import BadData, BadKind, BadMachine, NoLane
from partedlanes.fronts import Front
from partedlanes.guards import PILE_RULES, RULES, ask_most, ask_program, ask_rule
from partedlanes.loads import are_datas
from partedlanes.piles import Pile
from partedlanes.roads import joins_of
from partedlanes.trials import Trial


class Machine:
    """Lanes, numbered from 0 on, that run a program together, each with its data."""

    def __init__(self, program, datas, *, rule="told"):
        ask_program(program)
        if not are_datas(program, datas):
            raise BadData(datas)
        ask_rule(rule, RULES)
        self.keep = True
        self.program = program
        self.datas = tuple(datas)
        self.rule = rule
        self.shared = False
        digits = [data.digits for data in datas]
        if rule in PILE_RULES:
            self.standing = Pile(program, digits, joins_of(program, rule))
        else:
            self.standing = Front(program, digits, rule == "least")

    def __eq__(self, other):
        # Equal lanes do the same: how many steps were done tells all that was done.
        return (
            isinstance(other, Machine)
            and self.program == other.program
            and self.rule == other.rule
            and self.datas == other.datas
            and self.standing.many_done == other.standing.many_done
        )

    def __len__(self):
        return len(self.datas)

    def step(self):
        """Does one row, if the machine is not over and does not stand, and tells what was done."""
        if self.standing.condition != "goes":
            return (self.standing.condition,)
        if self.shared:
            self.standing = self.standing.copied()
            self.shared = False
        return self.standing.do()

    def go(self, most):
        """What steps tell, until one of them does nothing or most are told."""
        ask_most(most)
        told = []
        while len(told) < most and (len(told) == 0 or told[-1][0] == "done"):
            told.append(self.step())
        return told

    def events(self):
        """All rows that see lanes and were done, with these lanes, in order."""
        return list(self.standing.log)

    def row_of(self, lane):
        """The row at which a lane is, the end if it has ended."""
        if isinstance(lane, bool) or not isinstance(lane, int) or not 0 <= lane < len(self.datas):
            raise NoLane(lane)
        return self.standing.where[lane]

    def registers_of(self, lane):
        """The class of a lane."""
        if isinstance(lane, bool) or not isinstance(lane, int) or not 0 <= lane < len(self.datas):
            raise NoLane(lane)
        return self.standing.kinds[lane]

    def alive(self):
        """The lanes that have not ended, ascending."""
        return self.standing.living

    def state(self):
        """Whether all lanes have ended, the machine stands, or it goes on."""
        return self.standing.condition

    def copy(self):
        """An equal machine, which goes on by itself."""
        made = Machine(self.program, self.datas, rule=self.rule)
        made.standing = self.standing
        # Each of both makes its own ahead of its next step.
        made.shared = True
        self.shared = True
        return made

    def pile(self):
        """The entries of the pile, the top one last, or the rows at which lanes are alive, with these."""
        return self.standing.told_pile()

    def trial(self):
        """For one `with`: a copy to work on; behind the block the machine is as that is, if it is kept."""
        return Trial(self)


def tried(machine, most, *, keep=True):
    """What up to most steps tell, done in a trial of a machine that is kept or not."""
    if not isinstance(machine, Machine):
        raise BadMachine(machine)
    ask_most(most)
    if keep is not True and keep is not False:
        raise BadKind(keep)
    with machine.trial() as work:
        told = work.go(most)
        if not keep:
            work.keep = None
    return told
