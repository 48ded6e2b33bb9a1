"""Marks: which branches need their joins."""

from partedlanes.checks import is_whole
from partedlanes.errors import BadJoins, TooMany
from partedlanes.graphs import Graph, can_stand
from partedlanes.guards import PILE_RULES, RULES, ask_limit, ask_no_steering, ask_program
from partedlanes.roads import unnested
from partedlanes.ties import are_kept
from partedlanes.views import views

_MOST_BRANCHES = 6


def marked(program, choice):
    """A program in which only the branches of a choice keep their joins; the others rejoin at the end."""
    ask_program(program)
    if not _is_choice(program, choice):
        raise BadJoins(choice)
    return program.with_joins({index: program.end for index in program.branches() if index not in choice})


def _is_choice(program, value):
    if not isinstance(value, tuple) or not all([is_whole(index) for index in value]):
        return False
    return list(value) == [index for index in program.branches() if index in value]


def is_good(program):
    """Whether joins nest, all promises are kept and no machine stands, by the rule "told"."""
    ask_no_steering(program)
    return _is_good(program)


def _is_good(program):
    if len(unnested(program, "told")) > 0:
        return False
    graph = Graph(program, "told")
    return not can_stand(graph) and are_kept(graph)


def least_marks(program):
    """All least choices of marks: those with fewer branches ahead, then ascending."""
    ask_no_steering(program)
    branches = program.branches()
    if len(branches) > _MOST_BRANCHES:
        raise TooMany(_MOST_BRANCHES)
    found = []
    for choice in sorted(_choices(branches), key=lambda one: (len(one), one)):
        if not any([_is_within(least, choice) for least in found]):
            if _is_good(marked(program, choice)):
                found.append(choice)
    return found


def verdicts(program):
    """A dict of the four rules: None if joins do not nest, else whether promises are kept, and whether none stands."""
    ask_no_steering(program)
    return {rule: _verdict(program, rule) for rule in RULES}


def views_unlike(program, *, limit=4000):
    """The rows that can see unlike crowds by the rules "told" and "first", ascending."""
    ask_program(program)
    ask_limit(limit)
    told = views(program, rule="told", limit=limit)
    first = views(program, rule="first", limit=limit)
    return [row for row in told if told[row] != first[row]]


def _verdict(program, rule):
    if rule in PILE_RULES and len(unnested(program, rule)) > 0:
        return None
    graph = Graph(program, rule)
    return (are_kept(graph), not can_stand(graph))


def _choices(branches):
    found = [()]
    for index in branches:
        found = [*found, *[(*choice, index) for choice in found]]
    return found


def _is_within(one, other):
    return all([index in other for index in one])
