"""Machines: lanes that run one program together, part and rejoin."""

from partedlanes.acts import classes_behind, first_class, next_row
from partedlanes.checks import is_between
from partedlanes.errors import BadData, BadKind, BadMachine, NoLane
from partedlanes.guards import PILE_RULES, RULES, ask_most, ask_program, ask_rule
from partedlanes.lanes import fits
from partedlanes.logs import Log
from partedlanes.piles import first_pile, pile_behind, settled
from partedlanes.roads import joins_of
from partedlanes.trials import Trial

MOST_LANES = 40
EVENTS = ("group", "meet", "any", "all", "same")


class Standing:
    """How the lanes of a machine stand ahead of a step; it never changes, so machines may share it."""

    def __init__(self, places, held, taken, entries, many_done, log):
        self.places = places
        self.held = held
        self.taken = taken
        self.entries = entries
        self.many_done = many_done
        self.log = log


class Machine:
    """Lanes, numbered from 0 on, that run a program together, each with its data."""

    def __init__(self, program, datas, *, rule="told"):
        ask_program(program)
        if not are_datas(program, datas):
            raise BadData(datas)
        ask_rule(rule, RULES)
        self.keep = True
        self.program = program
        self.datas = tuple(datas)
        self.rule = rule
        self.joins = joins_of(program, rule) if rule in PILE_RULES else {}
        zeros = (0,) * len(datas)
        entries = first_pile(program, tuple(range(len(datas)))) if rule in PILE_RULES else ()
        self.now = Standing(zeros, (first_class(program),) * len(datas), zeros, entries, 0, Log([], 0))

    def __eq__(self, other):
        # Equal lanes do the same: how many steps were done tells all that was done.
        return (
            isinstance(other, Machine)
            and self.program == other.program
            and self.rule == other.rule
            and self.datas == other.datas
            and self.now.many_done == other.now.many_done
        )

    def __len__(self):
        return len(self.datas)

    def step(self):
        """Does one row, if the machine is not over and does not stand, and tells what was done."""
        state = self.state()
        if state != "goes":
            return (state,)
        row, lanes = self._turn()
        self.now = self._standing_behind(row, lanes)
        return ("done", row, lanes)

    def go(self, most):
        """What steps tell, until one of them does nothing or most are told."""
        ask_most(most)
        told = []
        while len(told) < most and (len(told) == 0 or told[-1][0] == "done"):
            told.append(self.step())
        return told

    def events(self):
        """All rows that see lanes and were done, with these lanes, in order."""
        return self.now.log.told()

    def row_of(self, lane):
        """The row at which a lane is, the end if it has ended."""
        self._ask_lane(lane)
        return self.now.places[lane]

    def registers_of(self, lane):
        """The class of a lane."""
        self._ask_lane(lane)
        return self.now.held[lane]

    def _ask_lane(self, lane):
        if not is_between(lane, 0, len(self.datas) - 1):
            raise NoLane(lane)

    def alive(self):
        """The lanes that have not ended, ascending."""
        return alive_of(self.program, self.now.places)

    def state(self):
        """Whether all lanes have ended, the machine stands, or it goes on."""
        if len(self.alive()) == 0:
            return "over"
        return "stands" if self._turn() is None else "goes"

    def copy(self):
        """An equal machine, which goes on by itself."""
        made = Machine(self.program, self.datas, rule=self.rule)
        made.now = self.now
        return made

    def pile(self):
        """The entries of the pile, the top one last, or the rows at which lanes are alive, with these."""
        if self.rule in PILE_RULES:
            return list(self.now.entries)
        rows = sorted(set([self.now.places[lane] for lane in self.alive()]))
        return [(row, self._lanes_at(row)) for row in rows]

    def trial(self):
        """For one `with`: a copy to work on; behind the block the machine is as that is, if it is kept."""
        return Trial(self)

    def _turn(self):
        """The row that is done next, and the lanes that do it, or None if the machine stands; some are alive."""
        alive = self.alive()
        if self.rule in PILE_RULES:
            row, _, lanes = self.now.entries[-1]
            return None if self._is_meeting(row) and len(lanes) < len(alive) else (row, lanes)
        rows = [self.now.places[lane] for lane in alive]
        free = [row for row in rows if not self._is_meeting(row)]
        if len(free) == 0 and min(rows) != max(rows):
            return None
        row = min(free or rows) if self.rule == "least" else max(free or rows)
        return (row, self._lanes_at(row))

    def _is_meeting(self, row):
        return self.program.rows[row][0] == "meet"

    def _lanes_at(self, row):
        places = self.now.places
        return tuple([lane for lane in range(len(places)) if places[lane] == row])

    def _standing_behind(self, row, lanes):
        now = self.now
        kind = self.program.rows[row][0]
        places, held, taken = list(now.places), list(now.held), list(now.taken)
        values = [self.datas[lane][taken[lane]] for lane in lanes]
        classes = classes_behind(self.program, row, [held[lane] for lane in lanes], values)
        for lane, registers in zip(lanes, classes):
            places[lane] = next_row(self.program, row, held[lane])
            held[lane] = registers
            taken[lane] += int(kind == "take")
        entries = self._entries_behind(lanes, places)
        log = now.log.with_line((row, lanes)) if kind in EVENTS else now.log
        return Standing(tuple(places), tuple(held), tuple(taken), entries, now.many_done + 1, log)

    def _entries_behind(self, lanes, places):
        if self.rule not in PILE_RULES:
            return ()
        goes = {lane: places[lane] for lane in lanes}
        return settled(pile_behind(self.now.entries, self.joins, goes), alive_of(self.program, places))


def are_datas(program, datas):
    """Whether any value is a list or tuple of as many data of a program as a machine may have lanes."""
    if not isinstance(datas, (list, tuple)) or not 1 <= len(datas) <= MOST_LANES:
        return False
    return all([fits(program, data) for data in datas])


def alive_of(program, places):
    """The lanes that have not ended, ascending; places: where each lane is."""
    return tuple([lane for lane, place in enumerate(places) if place != program.end])


def tried(machine, most, *, keep=True):
    """What up to most steps tell, done in a trial of a machine that is kept or not."""
    if not isinstance(machine, Machine):
        raise BadMachine(machine)
    ask_most(most)
    if keep is not True and keep is not False:
        raise BadKind(keep)
    with machine.trial() as work:
        told = work.go(most)
        if not keep:
            work.keep = None
    return told
