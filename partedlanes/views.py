"""What groups can see: the crowds that rows see, with lanes that show it."""

from partedlanes.acts import told_by
from partedlanes.crowds import is_crowd
from partedlanes.guards import MOST_STEPS, PILE_RULES, ask_program, ask_rule
from partedlanes.loads import are_datas
from partedlanes.machines import Machine
from partedlanes.sets import Sets
from partedlanes.showings import come_to, datas_of
from partedlanes.sights import ask_seeing_row, done_scenes, seeing_rows, seeing_scenes, stuck_scenes
from partedlanes.weaves import Weave


def views(program, *, rule="told", limit=4000):
    """A dict of all rows that see lanes, ascending, and the crowds that each one can see, ascending."""
    sets = Sets(program, rule=rule, limit=limit)
    return {row: _seen_by(sets, row) for row in seeing_rows(program)}


def results(program, *, rule="told", limit=4000):
    """A dict of all rows that steer, ascending, and what registers can get by each one, ascending."""
    sets = Sets(program, rule=rule, limit=limit)
    return {
        row: sorted(set([told_by(program, program.rows[row], crowd) for crowd in _seen_by(sets, row)]))
        for row in program.steering()
    }


def can_stand_in_sets(program, *, rule="told", limit=4000):
    """Whether a machine can stand."""
    return len(stuck_scenes(Sets(program, rule=rule, limit=limit).found)) > 0


def lanes_for(program, row, crowd, *, rule="told", limit=4000):
    """Data of lanes with which a machine does a row with a crowd, None if the row cannot see it."""
    sets = Sets(program, rule=rule, limit=limit)
    ask_seeing_row(program, row)
    goals = seeing_scenes(sets.found, row, crowd) if is_crowd(program, crowd, False) else []
    if len(goals) == 0:
        return None
    weave = Weave(sets.found.plot)
    come_to(sets.found, goals, weave)
    weave.visit(row)
    return datas_of(weave)


def lanes_that_stand(program, *, rule="told", limit=4000):
    """Data of lanes with which a machine stands, None if none can."""
    sets = Sets(program, rule=rule, limit=limit)
    goals = stuck_scenes(sets.found)
    if len(goals) == 0:
        return None
    weave = Weave(sets.found.plot)
    come_to(sets.found, goals, weave)
    return datas_of(weave)


def is_view(program, row, crowd, datas, *, rule="told"):
    """Whether any values are data with which a machine does a row with a crowd, within its first 1000 steps."""
    ask_program(program)
    ask_rule(rule, PILE_RULES)
    ask_seeing_row(program, row)
    if not is_crowd(program, crowd, False) or not are_datas(program, datas):
        return False
    machine = Machine(program, datas, rule=rule)
    for _ in range(MOST_STEPS):
        at, _, lanes = machine.pile()[-1]
        kinds = sorted(set([machine.registers_of(lane) for lane in lanes]))
        if machine.step()[0] != "done":
            return False
        if at == row and tuple(kinds) == crowd:
            return True
    return False


def is_stand(program, datas, *, rule="told"):
    """Whether any value is data with which a machine stands within 1000 steps."""
    ask_program(program)
    ask_rule(rule, PILE_RULES)
    return are_datas(program, datas) and Machine(program, datas, rule=rule).go(MOST_STEPS)[-1][0] == "stands"


def _seen_by(sets, row):
    """The crowds that a row can see, ascending."""
    crowds = sets.found.plot.crowds
    return sorted(set([crowds.crowd_of(scene[2]) for scene in done_scenes(sets.found, row)]))
