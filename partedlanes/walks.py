"""Walks: how lanes alone go from event to event.

A place is a tuple (row or end, class). At places of some rows, and at the end, there is an event.
"""

from partedlanes.acts import classes_behind, first_class, next_row
from partedlanes.checks import is_between
from partedlanes.crowds import is_class
from partedlanes.errors import Unlike
from partedlanes.guards import ask_no_steering

NAMED = ("group", "meet")
LAST = ("end", "never")


class Walk:
    """The places and events of lanes alone in a plain program."""

    def __init__(self, program):
        self.program = program
        self.known = {}

    def is_event(self, place):
        """Whether there is an event at a place."""
        return place[0] == self.program.end or self.program.rows[place[0]][0] in ("take", "end", *NAMED)

    def event(self, place):
        """The event at a place; it is ("never",) where there is none and none comes any more."""
        if place[0] == self.program.end:
            return ("end",)
        row = self.program.rows[place[0]]
        if row[0] in NAMED:
            return row[:2]
        return row[:1] if self.is_event(place) else ("never",)

    def is_place(self, value):
        """Whether two values tell a place at which there is an event, or from which on none comes any more."""
        row, registers = value
        if not is_between(row, 0, self.program.end) or not is_class(self.program, registers):
            return False
        return self.is_event(value) or not self.is_event(self.coming(value))

    def first(self):
        """The place of the first event."""
        return self.coming((0, first_class(self.program)))

    def coming(self, place):
        """The place of the event that comes from a place on, or, if none comes, the first one that comes twice."""
        if place not in self.known:
            passed = {}
            later = place
            while not self.is_event(later) and later not in passed:
                passed[later] = True
                later = self._behind(later, 0)
            self.known[place] = later
        return self.known[place]

    def after(self, place, value):
        """The place of the next event behind one that is not the last one; value: what a take takes."""
        return self.coming(self._behind(place, value))

    def _behind(self, place, value):
        row, registers = place
        kinds = classes_behind(self.program, row, [registers], [value])
        return (next_row(self.program, row, registers), kinds[0])


class Duo:
    """Two plain programs side by side, with the same data; nodes are tuples (row, class, row, class)."""

    def __init__(self, one, other):
        ask_no_steering(one)
        ask_no_steering(other)
        if one.size != other.size:
            raise Unlike(other)
        self.size = one.size
        self.walks = (Walk(one), Walk(other))

    def first(self):
        """The places of the first events."""
        return (*self.walks[0].first(), *self.walks[1].first())

    def events(self, node):
        """The events of both programs at a node."""
        return (self.walks[0].event(node[:2]), self.walks[1].event(node[2:]))

    def are_unlike(self, node):
        """Whether the events of both programs are unlike at a node."""
        one, other = self.events(node)
        return one != other

    def after(self, node, value):
        """The places of the next events, behind like events that are not the last ones."""
        return (*self.walks[0].after(node[:2], value), *self.walks[1].after(node[2:], value))

    def steps(self, node):
        """All nodes of the next events, none behind unlike events and behind the last ones."""
        event, other = self.events(node)
        if event != other or event[0] in LAST:
            return []
        return [self.after(node, value) for value in range(self.size if event[0] == "take" else 1)]

    def takes(self, node, later):
        """The value that lanes of both programs take to come to a later node, None if they take none."""
        if self.events(node)[0][0] != "take":
            return (None, None)
        return (self.steps(node).index(later), None)
