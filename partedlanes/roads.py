"""Roads through programs, and where the ways of branches rejoin."""

from partedlanes.checks import is_whole
from partedlanes.errors import BadNumber
from partedlanes.guards import PILE_RULES, ask_program, ask_rule
from partedlanes.reach import reached


def first_common(program, index):
    """The first row behind a branch through which all roads from it to the end go."""
    ask_program(program)
    if not is_whole(index) or index not in program.branches():
        raise BadNumber(index)
    return _first_common(_all_ways(program), index)


def joins_of(program, rule):
    """A dict of all branches and where their ways rejoin, as their rows tell or at their first common rows."""
    ask_program(program)
    ask_rule(rule, PILE_RULES)
    if rule == "told":
        return {index: program.rows[index][4] for index in program.branches()}
    ways = _all_ways(program)
    return {index: _first_common(ways, index) for index in program.branches()}


def unnested(program, rule):
    """All pairs of branches that show that joins do not nest, ascending."""
    joins = joins_of(program, rule)
    ways = _all_ways(program)
    found = []
    for outer, join in joins.items():
        if join != program.end:
            within = reached(ways[outer], ways, [join])
            found += [
                (outer, inner)
                for inner in joins
                if inner in within and join in reached(ways[inner], ways, [joins[inner]])
            ]
    return found


def _all_ways(program):
    """The ways of all rows, and of the end, which has none."""
    return [*[program.ways(index) for index in range(program.end)], []]


def _first_common(ways, index):
    end = len(ways) - 1
    if end not in reached(ways[index], ways, []):
        return end
    shared = [row for row in range(end) if end not in reached(ways[index], ways, [row])]
    for row in shared:
        # The others lie behind the first one, so only that is come to without them.
        if row in reached(ways[index], ways, [other for other in shared if other != row]):
            return row
    return end
