"""Pieces of tables of scenes: what some scenes have to tell, as long as others tell what is assumed of them."""

from partedlanes.claims import claims_of, tells_enough
from partedlanes.errors import BadPaper, BadProgram
from partedlanes.guards import PILE_RULES, ask_program, ask_rule
from partedlanes.plots import Plot
from partedlanes.programs import Program
from partedlanes.readings import read_table
from partedlanes.roads import joins_of
from partedlanes.tellings import told_arrivals


def is_piece(program, rule, value):
    """Whether any value is a piece of a table."""
    return _read_piece(_plot_of(program, rule), value) is not None


def _plot_of(program, rule):
    """The plot of any values; refuses those of which there is none."""
    ask_program(program)
    ask_rule(rule, PILE_RULES)
    return Plot(program, joins_of(program, rule), False)


def _read_piece(plot, value):
    """What any value tells, and what it assumes: two dicts of scenes and their arrivals; None if it is no piece."""
    if not isinstance(value, tuple) or len(value) != 2:
        return None
    told, assumed = [read_table(plot, part) for part in value]
    if told is None or assumed is None or any([scene in assumed for scene in told]):
        return None
    claims = claims_of(plot, {scene: part[scene] for part in (told, assumed) for scene in part})
    return (told, assumed) if all([tells_enough(claims, scene) for scene in told]) else None


def _read_pieces(plot, value):
    """What each piece of any value tells and assumes; refuses one that is no list of pieces."""
    if not isinstance(value, list):
        raise BadPaper(value)
    found = [_read_piece(plot, piece) for piece in value]
    if any([piece is None for piece in found]):
        raise BadPaper(value)
    return found


def pieces_of(sets):
    """The table of scenes that can come as a list of pieces, one for each of their joins, ascending."""
    by_joins = {}
    for scene in sets.sketch.all_scenes():
        by_joins.setdefault(scene[1], []).append(scene)
    return [_piece_of(sets.sketch, by_joins[join]) for join in sorted(list(by_joins))]


def _piece_of(sketch, scenes):
    arms = {arm: True for scene in scenes for arm in _arms_of(sketch, scene) if arm[1] != scene[1]}
    return (sketch.told(scenes), sketch.told(list(arms)))


def _arms_of(sketch, scene):
    """The scenes of the arms where the lanes of a scene part."""
    if sketch.arms is None or not sketch.plot.parts(scene):
        return []
    return sketch.whole_table().arms_of(scene)


def unkept(program, rule, pieces):
    """The first tuple (number of a piece, scene) whose assumption is not kept by the pieces, or None."""
    plot = _plot_of(program, rule)
    return _first_unkept(plot, _read_pieces(plot, pieces))


def _first_unkept(plot, parts):
    table = _joined(parts)
    for number, (told, assumed) in enumerate(parts):
        for part in (assumed, told):
            for scene in part:
                if scene not in table or any([arrival not in part[scene] for arrival in table[scene]]):
                    return (number, plot.tell(scene))
    return None


def _joined(parts):
    """A dict of all scenes that are told, each with the arrivals of the first piece that tells it."""
    found = {}
    for told, _ in parts:
        for scene in told:
            found.setdefault(scene, told[scene])
    return found


def joined_pieces(program, rule, pieces):
    """The table of all scenes that pieces tell."""
    plot = _plot_of(program, rule)
    parts = _read_pieces(plot, pieces)
    table = _joined(parts)
    if plot.first_scene(1) not in table or _first_unkept(plot, parts) is not None:
        raise BadPaper(pieces)
    return sorted([
        (plot.tell(scene), told_arrivals(plot, table[scene])) for scene in table
    ])


def touched_pieces(program, other, rule, pieces):
    """The numbers of the pieces that may be none for another program, ascending."""
    plot = _plot_of(program, rule)
    if not _is_alike_in_form(program, other):
        raise BadProgram(other)
    parts = _read_pieces(plot, pieces)
    rows = _touched_rows(program, other, rule)
    return [number for number, (told, _) in enumerate(parts) if any([scene[0] in rows for scene in told])]


def _is_alike_in_form(program, other):
    """Whether any value is a program with as many rows, and with the same registers and values."""
    if not isinstance(other, Program):
        return False
    return len(other) == len(program) and other.registers == program.registers and other.size == program.size


def _touched_rows(program, other, rule):
    """The rows that another program has otherwise, or that part lanes which rejoin elsewhere in it."""
    joins, other_joins = joins_of(program, rule), joins_of(other, rule)
    return [
        index for index in range(program.end)
        if _without_join(program.rows[index]) != _without_join(other.rows[index])
        or (index in joins and joins[index] != other_joins[index])
    ]


def _without_join(row):
    return row[:4] if row[0] == "if" else row
