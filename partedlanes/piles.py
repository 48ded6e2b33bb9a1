"""Piles of entries (row, join, lanes): who goes on, and who waits; piles are tuples and never change."""


def first_pile(program, lanes):
    """The pile at the beginning."""
    return ((0, program.end, lanes),)


def pile_behind(pile, joins, goes):
    """The pile behind a step of the top entry; goes: a dict of its lanes and where each one goes on."""
    row, join, lanes = pile[-1]
    ways = sorted(set([goes[lane] for lane in lanes]))
    if len(ways) == 1:
        return (*pile[:-1], (ways[0], join, lanes))
    arms = _arms(row, joins[row], lanes, goes)
    if joins[row] == join:
        return (*pile[:-1], *arms)
    return (*pile[:-1], (joins[row], join, lanes), *arms)


def _arms(row, join, lanes, goes):
    top = tuple([lane for lane in lanes if goes[lane] == row + 1])
    rest = tuple([lane for lane in lanes if goes[lane] != row + 1])
    return ((goes[rest[0]], join, rest), (row + 1, join, top))


def settled(pile, alive):
    """The pile ahead of a step: only lanes that are alive are in it, and entries that are over are taken off."""
    left = [(row, join, tuple([lane for lane in lanes if lane in alive])) for row, join, lanes in pile]
    while len(left) > 1 and _is_over(left[-1]):
        left.pop()
    return tuple(left)


def _is_over(entry):
    row, join, lanes = entry
    return len(lanes) == 0 or row == join
