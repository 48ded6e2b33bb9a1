"""What groups can see: the crowds that rows see, with lanes that show it."""

from partedlanes.acts import told_by
from partedlanes.crowds import is_crowd
from partedlanes.guards import MOST_STEPS, PILE_RULES, ask_program, ask_rule
from partedlanes.loads import are_datas
from partedlanes.machines import Machine
from partedlanes.showings import lanes_that_get_stuck, lanes_to_crowd
from partedlanes.sights import ask_seeing_row, seeing_rows
from partedlanes.sketches import sketch_of
from partedlanes.tellings import told_arrivals


def views(program, *, rule="told", limit=4000):
    """A dict of all rows that see lanes, ascending, and the crowds that each one can see, ascending."""
    sketch = sketch_of(program, rule, limit)
    return {row: _seen_by(sketch, row) for row in seeing_rows(program)}


def _seen_by(sketch, row):
    return told_arrivals(sketch.full_plot(), sketch.done_at(row))


def results(program, *, rule="told", limit=4000):
    """A dict of all rows that steer, ascending, and what registers can get by each one, ascending."""
    sketch = sketch_of(program, rule, limit)
    return {
        row: sorted(set([told_by(program, program.rows[row], crowd) for crowd in _seen_by(sketch, row)]))
        for row in program.steering()
    }


def can_stand_in_sets(program, *, rule="told", limit=4000):
    """Whether a machine can stand."""
    return len(sketch_of(program, rule, limit).stuck()) > 0


def lanes_for(program, row, crowd, *, rule="told", limit=4000):
    """Data of lanes with which a machine does a row with a crowd, None if the row cannot see it."""
    sketch = sketch_of(program, rule, limit)
    ask_seeing_row(program, row)
    if not is_crowd(program, crowd, False):
        return None
    return lanes_to_crowd(sketch, row, sketch.sieve.code_of(crowd))


def lanes_that_stand(program, *, rule="told", limit=4000):
    """Data of lanes with which a machine stands, None if none can."""
    return lanes_that_get_stuck(sketch_of(program, rule, limit))


def is_view(program, row, crowd, datas, *, rule="told"):
    """Whether any values are data with which a machine does a row with a crowd, within its first 1000 steps."""
    ask_program(program)
    ask_rule(rule, PILE_RULES)
    ask_seeing_row(program, row)
    if not is_crowd(program, crowd, False) or not are_datas(program, datas):
        return False
    machine = Machine(program, datas, rule=rule)
    for _ in range(MOST_STEPS):
        at, _, lanes = machine.pile()[-1]
        kinds = sorted(set([machine.registers_of(lane) for lane in lanes]))
        if machine.step()[0] != "done":
            return False
        if at == row and tuple(kinds) == crowd:
            return True
    return False


def is_stand(program, datas, *, rule="told"):
    """Whether any value is data with which a machine stands within 1000 steps."""
    ask_program(program)
    ask_rule(rule, PILE_RULES)
    return are_datas(program, datas) and Machine(program, datas, rule=rule).go(MOST_STEPS)[-1][0] == "stands"
