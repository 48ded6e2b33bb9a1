"""Papers: tuples that show what is so of a plain program, and that anybody can judge."""

from partedlanes.checks import is_whole
from partedlanes.errors import BadPaper
from partedlanes.graphs import Graph, ask_plain
from partedlanes.guards import ask_group
from partedlanes.judges import Judge
from partedlanes.proofs import paper_of_ties, standing_paper
from partedlanes.ties import Ties

# How many parts the papers of each word have.
_PARTS = {"closed": 2, "goes": 2, "stands": 4, "kept": 4, "broken": 6}


def accepts(program, rule, paper):
    """Whether any value is a paper, and shows what it says of a program and a rule."""
    ask_plain(program, rule)
    if not _has_form(paper):
        return False
    judge = Judge(program, rule)
    word, parts = paper[0], paper[1:]
    if word == "closed":
        return judge.is_closed(*parts)
    if word == "goes":
        return judge.never_stands(*parts)
    if word == "stands":
        return judge.can_stand(*parts)
    return judge.is_kept(*parts) if word == "kept" else judge.is_broken(*parts)


def _has_form(value):
    """Whether any value is a tuple of one of the words, and as many parts as belong to it."""
    if not isinstance(value, tuple) or len(value) == 0:
        return False
    word = value[0]
    return isinstance(word, str) and word in _PARTS and len(value) == _PARTS[word]


def closed_paper(program, rule):
    """The paper of all pair states that are come to."""
    return ("closed", sorted(list(Graph(program, rule).behind)))


def stands_paper(program, rule):
    """The paper that tells whether a machine can stand."""
    return standing_paper(Graph(program, rule))


def promise_paper(program, rule, row):
    """The paper that tells whether the promise of a group operation is kept."""
    graph = Graph(program, rule)
    ask_group(program, row)
    return paper_of_ties(Ties(graph, row))


def verdict(paper):
    """What a paper says, in short."""
    if not _has_form(paper):
        raise BadPaper(paper)
    if paper[0] not in ("kept", "broken"):
        return paper[0]
    if not is_whole(paper[1]):
        raise BadPaper(paper)
    return f"{paper[0]} {paper[1]}"
