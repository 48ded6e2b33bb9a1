"""Straight ways: how crowds of the trunk are come to where no lanes part on the way."""

from partedlanes.acts import classes_behind
from partedlanes.checks import CHANGING
from partedlanes.sieves import many_of
from partedlanes.sketches import FIRST


def straight_way(sketch, index, code, most):
    """A list of tuples (row, number of a crowd) as far as these, with fewer than so many steps, or None.

    If there are such ways on which no crowd has more classes than the last one, it is one of these.
    """
    narrow = 0
    for crowds in sketch.sieve.by_sizes()[:many_of(code)]:
        narrow = narrow | crowds
    way = _way_within(sketch, narrow, (index, code), most)
    return _way_within(sketch, sketch.sieve.every, (index, code), most) if way is None else way


def _way_within(sketch, allowed, goal, most):
    """Such a way with the fewest steps of all that have only crowds of a set, or None."""
    layers = [{0: 1 << FIRST}]
    known = {0: 1 << FIRST}
    while (layers[-1].get(goal[0], 0) >> goal[1]) & 1 == 0:
        layers.append(_next_layer(sketch, layers[-1], known, allowed))
        if len(layers[-1]) == 0 or len(layers) > most:
            return None
    way = [goal]
    for layer in reversed(list(layers[:-1])):
        way.append(_place_ahead(sketch, layer, way[-1]))
    return way[::-1]


def _next_layer(sketch, layer, known, allowed):
    found = {}
    for index, some in layer.items():
        for later, crowds in sketch.sieve.onward(index, some):
            fresh = crowds & allowed & ~known.get(later, 0)
            if fresh > 0 and later < sketch.end:
                found[later] = found.get(later, 0) | fresh
                known[later] = known.get(later, 0) | fresh
    return found


def _place_ahead(sketch, layer, place):
    """A place of a layer from which one step leads to another place, with as few classes as can be."""
    goal = {place[0]: 1 << place[1]}
    for index in layer:
        some = layer[index] & sketch.sieve.before(index, goal)
        if some > 0:
            return (index, sketch.sieve.smallest(some))
    return place


def takings_along(sketch, way):
    """What lanes take that together have all classes on a straight way: lists of values, one for each lane."""
    program = sketch.program
    # Whatever is taken by the last step, all lanes end by it.
    way = way[:-1] if way[-1][0] == sketch.end else way
    kinds = sketch.crowd_of(way[-1][1])
    taken = [[] for _ in kinds]
    for index, code in reversed(list(way[:-1])):
        row = program.rows[index]
        if row[0] == "take":
            place, changed = program.places[row[1]], program.changed[row[1]][0]
            for lane, kind in enumerate(kinds):
                taken[lane].append(kind[place])
            kinds = [changed[kind] for kind in kinds]
        if row[0] in CHANGING:
            kinds = _kinds_ahead(program, index, sketch.crowd_of(code), kinds, taken)
    return [values[::-1] for values in taken]


def _kinds_ahead(program, index, crowd, kinds, taken):
    """The classes of lanes ahead of a row; lanes are added where there are not enough for all classes of a crowd.

    kinds: the classes that they have behind the row, with 0 for what they take there.
    """
    found = {}
    laters = classes_behind(program, index, crowd, (0,) * len(crowd))
    for later in sorted(set(laters)):
        some = [kind for kind, after in zip(crowd, laters) if after == later]
        lanes = [lane for lane, kind in enumerate(kinds) if kind == later]
        while len(lanes) < len(some):
            lanes.append(len(taken))
            taken.append(list(taken[lanes[0]]))
        for place, lane in enumerate(lanes):
            found[lane] = some[place % len(some)]
    return [found[lane] for lane in range(len(taken))]
