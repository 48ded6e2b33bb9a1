"""Trails with the fewest steps that two lanes can go, and the data with which they go them."""

from partedlanes.digits import MOST_VALUES, without_zeros
from partedlanes.errors import TooLarge
from partedlanes.lanes import Data


def shown_datas(layers, walk):
    """Two data with which lanes come from the only node of the first layer to one of the last, and this node.

    layers: nodes by their fewest steps. walk: an object with `steps(node)`, the nodes behind one step, and
    `takes(node, later)`, the values that the two lanes take in this step, None for a lane that takes none.
    Of all trails only one that needs no data above the limit is told.
    """
    needs = _needs(layers, walk)
    node = layers[0][0]
    if node not in needs[0]:
        raise TooLarge(MOST_VALUES)
    need = min(list(needs[0][node]))
    taken = []
    for many in range(len(layers) - 1):
        later, need = needs[many][node][need]
        taken.append(walk.takes(node, later))
        node = later
    return (_data([pair[0] for pair in taken]), _data([pair[1] for pair in taken]), node)


def _data(taken):
    # Zeros at the end may be more than data can hold.
    values = without_zeros([value for value in taken if value is not None])
    return Data(*values)


def _needs(layers, walk):
    """For each layer a dict of nodes, and for each of these a dict of the least needs of a trail from there.

    A need is how many values each lane takes from there until the last one that is not 0; with each need stands
    the next node, and the need that is left there.
    """
    found = [{node: {(0, 0): None} for node in layers[-1]}]
    for layer in reversed(list(layers[:-1])):
        later_needs = found[-1]
        needs = {}
        for node in layer:
            least = _least(_needs_of(node, walk, later_needs))
            if len(least) > 0:
                needs[node] = least
        found.append(needs)
    return found[::-1]


def _needs_of(node, walk, later_needs):
    found = {}
    for later in walk.steps(node):
        if later in later_needs:
            one, other = walk.takes(node, later)
            for left in later_needs[later]:
                need = (_need(left[0], one), _need(left[1], other))
                if max(need) <= MOST_VALUES and need not in found:
                    found[need] = (later, left)
    return found


def _need(left, value):
    if value is None:
        return left
    return left + 1 if left > 0 else min(value, 1)


def _least(needs):
    """Only those needs that no other one is below."""
    found = {}
    best = MOST_VALUES + 1
    for need in sorted(list(needs)):
        if need[1] < best:
            best = need[1]
            found[need] = needs[need]
    return found
