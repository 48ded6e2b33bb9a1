"""Keepers: programs of which at all times all promises are kept and no meeting stands."""

from partedlanes.edits import are_edits, edited
from partedlanes.errors import BadEdits, BadKeeper, BadKind, Guarded, LanesError, NothingToUndo, TooLarge, TooMany
from partedlanes.graphs import Graph, ask_plain, can_stand
from partedlanes.programs import Program
from partedlanes.proofs import paper_of_ties, standing_paper
from partedlanes.ties import Ties, are_kept
from partedlanes.trials import Trial


class Keeper:
    """A program and a rule; `standing` has all earlier programs and the present one, and is never changed itself."""

    def __init__(self, program, rule):
        _ask_guarded(program, rule)
        self.keep = True
        self.shared = False
        self.rule = rule
        self.standing = ((), program)

    def __eq__(self, other):
        return isinstance(other, Keeper) and self.rule == other.rule and self.standing == other.standing

    def __len__(self):
        return len(self.standing[0])

    def __getitem__(self, index):
        return self.standing[1][index]

    def __setitem__(self, index, row):
        self.put_row(index, row)

    def __iter__(self):
        raise TypeError("take the rows of the present program to go over them")

    def now(self):
        """The present program."""
        return self.standing[1]

    def put_row(self, index, row):
        """Changes a row."""
        self._change_to(self.now().with_row(index, row))

    def put_joins(self, joins):
        """Changes the joins of some branches."""
        self._change_to(self.now().with_joins(joins))

    def _change_to(self, program):
        _ask_guarded(program, self.rule)
        earlier, present = self.standing
        self.standing = ((*earlier, present), program)

    def undo(self):
        """Takes back the last change."""
        earlier, _ = self.standing
        if len(earlier) == 0:
            raise NothingToUndo()
        self.standing = (earlier[:-1], earlier[-1])

    def papers(self):
        """Papers that show that nothing stands and that each promise is kept."""
        graph = Graph(self.now(), self.rule)
        return [standing_paper(graph), *[paper_of_ties(Ties(graph, row)) for row in self.now().groups()]]

    def copy(self):
        """An equal keeper, which goes on by itself."""
        # What is kept was looked at already, so a copy begins with a program that takes no time.
        made = Keeper(Program([("end",)]), self.rule)
        made.standing = self.standing
        return made

    def trial(self):
        """For one `with`: a copy to work on; behind the block the keeper is as that is, if it is kept."""
        return Trial(self)


def _ask_guarded(program, rule):
    """Refuses a program of which not all promises are kept, or in which a meeting stands."""
    graph = Graph(program, rule)
    if can_stand(graph):
        raise Guarded(standing_paper(graph))
    for row in program.groups():
        ties = Ties(graph, row)
        if not ties.kept:
            raise Guarded(paper_of_ties(ties))


def tried_edits(keeper, edits, *, keep=True):
    """The program to which changes lead, made in a trial of a keeper that is kept or not."""
    if not isinstance(keeper, Keeper):
        raise BadKeeper(keeper)
    if not are_edits(edits):
        raise BadEdits(edits)
    if keep is not True and keep is not False:
        raise BadKind(keep)
    with keeper.trial() as work:
        for index, edit in enumerate(edits):
            try:
                _make(work, edit)
            except (LanesError, TooLarge, TooMany) as why:
                raise BadEdits(index) from why
        if not keep:
            work.keep = None
    return work.now()


def _make(keeper, edit):
    if edit[0] == "row":
        keeper.put_row(edit[1], edit[2])
    else:
        keeper.put_joins(edit[1])


def edits_kept(program, rule, edits):
    """The indexes of those edits each of which, done alone, leads to a program that a keeper would not refuse."""
    ask_plain(program, rule)
    if not are_edits(edits):
        raise BadEdits(edits)
    return [index for index, edit in enumerate(edits) if _is_kept(program, rule, edit)]


def _is_kept(program, rule, edit):
    try:
        graph = Graph(edited(program, edit), rule)
    except (LanesError, TooMany):
        return False
    return not can_stand(graph) and are_kept(graph)
