"""The document's words about papers done once more, as plainly as can be, to compare the package with."""

import itertools

from partedlanes.lanes import Data
from partedlanes.roads import joins_of
from tests.literal import Lanes, Watch

# Greater than all bounds in the tests: stands for those that there are not.
FAR = 60


def is_whole(value):
    return isinstance(value, int) and not isinstance(value, bool)


def by_pile(rule):
    return rule in ("told", "first")


def placed(program, rule, state, values):
    """Two lanes that stand as a pair state tells, and take these values."""
    joins = joins_of(program, rule) if by_pile(rule) else {}
    lanes = Lanes(program, [Data(), Data()], rule, joins)
    row, kind, other, other_kind, word, join = state
    lanes.row, lanes.left = [row, other], [[value] for value in values]
    lanes.held = [dict(zip(program.registers, registers)) for registers in (kind, other_kind)]
    lanes.pile = [[row, program.end, [0, 1]]]
    if program.end in (row, other) or word.startswith(("first", "second")):
        arms = [[row, join, [0]], [other, join, [1]]]
        # Where the join is the end, both entries take the place of the one with all lanes.
        waiting = [] if join == program.end else [[join, program.end, [0, 1]]]
        lanes.pile = waiting + (arms[::-1] if word.startswith("first") else arms)
    lanes.settle()
    return lanes


def steps(program, rule, state, known={}):
    """The pair states behind one step; those that were asked for are known."""
    asked = (program.rows, program.registers, program.size, rule, state)
    if asked not in known:
        known[asked] = set()
        for values in itertools.product(range(program.size), repeat=2):
            lanes = placed(program, rule, state, values)
            if lanes.step()[0] == "done":
                known[asked].add(lanes.pair_state())
    return known[asked]


def is_state(program, rule, value):
    """Whether any value is a pair state, as point 12 tells it."""
    if not isinstance(value, tuple) or len(value) != 6:
        return False
    row, kind, other, other_kind, word, join = value
    if not all(is_whole(place) and 0 <= place <= program.end for place in (row, other, join)):
        return False
    for registers in (kind, other_kind):
        if not isinstance(registers, tuple) or not all(map(is_whole, registers)):
            return False
        if registers not in program.classes():
            return False
    if not isinstance(word, str):
        return False
    if program.end in (row, other):
        alive = [lane for lane, place in enumerate((row, other)) if place != program.end]
        return join == program.end and word == {(): "over", (0,): "first", (1,): "second"}[tuple(alive)]
    meets = [program.rows[place][0] == "meet" for place in (row, other)]
    if by_pile(rule):
        return {
            "both": row == other and join == program.end, "first": row != join and not meets[0],
            "second": other != join and not meets[1], "first stands": row != join and meets[0],
            "second stands": other != join and meets[1],
        }.get(word, False)
    return join == program.end and word == placed(program, rule, value, (0, 0)).pair_state()[4]


def all_states(program, rule):
    """All pair states of a program and a rule, also those that nothing comes to."""
    kinds, places = program.classes(), range(program.end + 1)
    words = ["both", "first", "second", "over", "first stands", "second stands", "stands"]
    found = itertools.product(places, kinds, places, kinds, words, places)
    return [state for state in found if is_state(program, rule, state)]


def start(program):
    zeros = (0,) * len(program.registers)
    return (0, zeros, 0, zeros, "both", program.end)


def does(state):
    """The row that is done, and whether lanes 0 and 1 do it."""
    return {"both": (state[0], (True, True)), "first": (state[0], (True, False)),
            "second": (state[2], (False, True))}.get(state[4], (None, (False, False)))


def is_accepted(program, rule, paper):
    """Whether any value is a paper that shows what it says, as point 18 tells it."""
    if not isinstance(paper, tuple) or not paper or not isinstance(paper[0], str):
        return False
    forms = {"closed": closed, "goes": goes, "stands": stands, "kept": kept, "broken": broken}
    many = {"closed": 2, "goes": 2, "stands": 4, "kept": 4, "broken": 6}
    return many.get(paper[0]) == len(paper) and forms[paper[0]](program, rule, *paper[1:])


def closed(program, rule, states):
    if not isinstance(states, (list, tuple)) or not all(is_state(program, rule, state) for state in states):
        return False
    return start(program) in states and all(steps(program, rule, state) <= set(states) for state in states)


def goes(program, rule, states):
    return closed(program, rule, states) and not any("stands" in state[4] for state in states)


def datas_of(program, one, other):
    for values in (one, other):
        if not isinstance(values, tuple) or len(values) > 60 or values[-1:] in ((0,), (False,)):
            return None
        if not all(is_whole(value) and 0 <= value < program.size for value in values):
            return None
    return [Data(*one), Data(*other)]


def lanes_of(program, rule, datas):
    return Lanes(program, datas, rule, joins_of(program, rule) if by_pile(rule) else {})


def stands(program, rule, one, other, many):
    datas = datas_of(program, one, other)
    if datas is None or not is_whole(many) or not 0 <= many <= 1000:
        return False
    lanes = lanes_of(program, rule, datas)
    return all(lanes.step()[0] == "done" for _ in range(many)) and lanes.step() == ("stands",)


def broken(program, rule, row, kind, one, other, many):
    datas = datas_of(program, one, other)
    if datas is None or not is_whole(many) or not 1 <= many <= 1000 or not isinstance(kind, str):
        return False
    if not is_whole(row) or row not in program.groups():
        return False
    lanes, watch = lanes_of(program, rule, datas), Watch(2, row, program.rows[row][2])
    for _ in range(many):
        done = lanes.step()
        if done[0] != "done":
            return False
        kinds = watch.see(*done[1:])
    return kinds == [kind]


def kept(program, rule, row, bounds, unrelated):
    if not is_whole(row) or row not in program.groups():
        return False
    if not isinstance(bounds, (list, tuple)) or not isinstance(unrelated, (list, tuple)):
        return False
    if not all(isinstance(entry, tuple) and len(entry) == 3 and is_state(program, rule, entry[0]) for entry in bounds):
        return False
    if not all(is_state(program, rule, state) for state in unrelated):
        return False
    if not all(bound is None or is_whole(bound) for entry in bounds for bound in entry[1:]):
        return False
    if not all(None in entry[1:] or entry[1] <= entry[2] for entry in bounds):
        return False
    told = {state: (-FAR if least is None else least, FAR if greatest is None else greatest)
            for state, least, greatest in bounds}
    if len(told) < len(bounds):
        return False
    nodes = [(state, tie) for state, (least, greatest) in told.items() for tie in range(least, greatest + 1)]
    return holds(program, rule, row, told, unrelated, nodes)


def holds(program, rule, row, told, unrelated, nodes):
    """Whether all that is told is right; nodes: what is told where lanes are related, tie by tie."""
    def has(state, tie):
        if tie is None:
            return state in unrelated
        least, greatest = told.get(state, (1, 0))
        return (least <= tie or least == -FAR) and (tie <= greatest or greatest == FAR)

    anchor = program.rows[row][2]
    if not has(start(program), 0 if anchor is None else None):
        return False
    for state, tie in [*nodes, *[(state, None) for state in unrelated]]:
        done, lanes = does(state)
        later = tie
        if done == row:
            counts = None if tie is None else [max(tie, 0), max(-tie, 0)]
            if Watch(2, row, anchor).broken(list(lanes), counts):
                return False
            later = None if tie is None else tie + lanes[0] - lanes[1]
        if anchor is not None and done == anchor:
            later = 0 if all(lanes) else None
        if not all(has(behind, later) for behind in steps(program, rule, state)):
            return False
    return True
