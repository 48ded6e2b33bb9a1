"""Programs alike: whether lanes alone come to the same events in both."""

from partedlanes.errors import BadData
from partedlanes.guards import ask_most, ask_no_steering
from partedlanes.loads import is_load
from partedlanes.promises import keeps
from partedlanes.trails import shown_datas
from partedlanes.walks import LAST, Duo, Walk


def events_alone(program, data, most):
    """The events of a lane that runs alone, at most so many."""
    ask_no_steering(program)
    if not is_load(program, data):
        raise BadData(data)
    ask_most(most)
    walk = Walk(program)
    place = walk.first()
    events = []
    taken = 0
    while len(events) < most and (len(events) == 0 or events[-1][0] not in LAST):
        event = walk.event(place)
        events.append(event)
        if event[0] not in LAST:
            place = walk.after(place, data[taken])
            taken += int(event[0] == "take")
    return events


class Likeness:
    """Whether two programs are alike: nodes are the places of lanes in both with the same data, event by event."""

    def __init__(self, one, other):
        self.duo = Duo(one, other)
        self.program = one
        self.known = {self.duo.first(): True}
        self.layers = [[self.duo.first()]]
        self.goals = self._that_are_unlike()
        while len(self.layers[-1]) > 0 and len(self.goals) == 0:
            self.layers.append(self._next_layer())
            self.goals = self._that_are_unlike()

    def _that_are_unlike(self):
        return [node for node in self.layers[-1] if self.duo.are_unlike(node)]

    def _next_layer(self):
        found = []
        for node in self.layers[-1]:
            for later in self.duo.steps(node):
                if later not in self.known:
                    self.known[later] = True
                    found.append(later)
        return found

    def is_alike(self):
        """Whether lanes alone have the same events in both programs, for all data."""
        return len(self.goals) == 0

    def difference(self):
        """None, or data with the index of the first unlike event of lanes with it; no data has a lesser one."""
        if self.is_alike():
            return None
        data, _, _ = shown_datas([*self.layers[:-1], self.goals], self.duo)
        return (data, len(self.layers) - 1)

    def __call__(self, data):
        """The index of the first unlike event of lanes with these data, or None."""
        if not is_load(self.program, data):
            raise BadData(data)
        node = self.duo.first()
        passed = {}
        taken, index = 0, 0
        # Behind the last value nothing but the node tells what comes.
        while not self.duo.are_unlike(node):
            event = self.duo.events(node)[0][0]
            place = (node, min(taken, len(data)))
            if event in LAST or place in passed:
                return None
            passed[place] = True
            node = self.duo.after(node, data[taken])
            taken += int(event == "take")
            index += 1
        return index

    def table(self):
        """The nodes of programs that are alike, ascending; an empty list for others."""
        return sorted(list(self.known)) if self.is_alike() else []


def is_like_table(one, other, table):
    """Whether any value is a table of nodes; then the programs are alike."""
    duo = Duo(one, other)
    if not isinstance(table, (list, tuple)) or not all([_is_node(duo, node) for node in table]):
        return False
    known = {node: True for node in table}
    if duo.first() not in known or any([duo.are_unlike(node) for node in known]):
        return False
    return all([later in known for node in known for later in duo.steps(node)])


def _is_node(duo, value):
    """Whether any value tells places in both programs at which there are events, or no more events come."""
    if not isinstance(value, tuple) or len(value) != 4:
        return False
    return duo.walks[0].is_place(value[:2]) and duo.walks[1].is_place(value[2:])


def surely_alike(one, rule, other, other_rule):
    """Whether programs are alike and keep promises, so that group operations see the same lanes in both."""
    if not Likeness(one, other).is_alike() or not _have_own_words(one) or not _have_own_words(other):
        return False
    one_keeps = keeps(one, rule)
    other_keeps = keeps(other, other_rule)
    return one_keeps and other_keeps


def _have_own_words(program):
    """Whether the group operations of a program have unlike words and no anchors."""
    rows = [program.rows[index] for index in program.groups()]
    words = [row[1] for row in rows]
    return len(set(words)) == len(words) and all([row[2] is None for row in rows])
