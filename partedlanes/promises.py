"""Promises: whether group operations see just the lanes that they should."""

from partedlanes.errors import BadPromise, NotNested, TooMany
from partedlanes.graphs import Graph
from partedlanes.guards import RULES, ask_group
from partedlanes.ties import Ties, are_kept


class Promise:
    """The promise of a group operation, by a rule."""

    def __init__(self, program, rule, row):
        graph = Graph(program, rule)
        ask_group(program, row)
        self.ties = Ties(graph, row)
        self.row = row
        self.anchor = self.ties.bond.anchor
        self.kept = self.ties.kept

    def __eq__(self, other):
        return (
            isinstance(other, Promise)
            and self.row == other.row
            and self.ties.graph.rule == other.ties.graph.rule
            and self.ties.graph.program == other.ties.graph.program
        )

    def broken(self):
        """None, or how a machine of two lanes breaks it, in the fewest steps: (kind, data, data, steps)."""
        return None if self.kept else self.ties.broken()

    def bounds(self):
        """Tuples (state, least, greatest) of the differences of counts where lanes can be related, ascending."""
        return self.ties.told_bounds()

    def unrelated(self):
        """The pair states in which lanes can be and be not related, ascending."""
        return self.ties.told_strangers()

    def at_least(self, other):
        """Whether it is kept, or another promise is not."""
        if not isinstance(other, Promise):
            raise BadPromise(other)
        return self.kept or not other.kept

    def kept_by(self):
        """The rules by which the promise of this row of this program is kept."""
        return [rule for rule in RULES if _is_kept(self.ties.graph.program, rule, self.row)]


def keeps(program, rule):
    """Whether all promises of a program are kept."""
    return are_kept(Graph(program, rule))


def broken_rows(program, rule):
    """The group operations whose promises are broken, ascending."""
    graph = Graph(program, rule)
    return [row for row in program.groups() if not Ties(graph, row).kept]


def _is_kept(program, rule, row):
    try:
        return Promise(program, rule, row).kept
    except (NotNested, TooMany):
        return False
