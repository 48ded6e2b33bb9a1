"""All pair states that two lanes of a plain program come to, and the steps between them."""

from partedlanes.acts import classes_behind, first_class, next_row
from partedlanes.errors import NotNested, TooMany
from partedlanes.guards import PILE_RULES, RULES, ask_no_steering, ask_program, ask_rule
from partedlanes.roads import joins_of, unnested

MOST_STATES = 60000
WORDS = ("first", "second")


def ask_plain(program, rule):
    """Refuses what stages 5 to 8 are not about."""
    ask_program(program)
    ask_rule(rule, RULES)
    ask_no_steering(program)
    if rule in PILE_RULES:
        pairs = unnested(program, rule)
        if len(pairs) > 0:
            raise NotNested(pairs[0])


class Moves:
    """What two lanes of a program can do in one step, from any of their pair states, by a rule."""

    def __init__(self, program, rule):
        self.program = program
        self.rule = rule
        self.end = program.end
        self.joins = joins_of(program, rule) if rule in PILE_RULES else {}
        self.kinds = program.classes()
        places = [(row, registers) for row in range(self.end) for registers in self.kinds]
        self.ahead = {place: self._ahead(place) for place in places}

    def _ahead(self, place):
        """All places to which a lane can come by one row: the row, or the end, and the class."""
        row, registers = place
        later = next_row(self.program, row, registers)
        many = self.program.size if self.program.rows[row][0] == "take" else 1
        return [(later, classes_behind(self.program, row, [registers], [value])[0]) for value in range(many)]

    def does(self, state):
        """The row that is done next, or None."""
        if state[4] == "both" or state[4] == "first":
            return state[0]
        return state[2] if state[4] == "second" else None

    def steps(self, state):
        """All pair states to which one step can lead, ascending, each once."""
        one, other, word = state[:2], state[2:4], state[4]
        found = []
        if word == "both":
            found = [self._behind_both(state[0], a, b) for a in self.ahead[one] for b in self.ahead[other]]
        if word == "first":
            found = [self._state(a, other, 0, state[5]) for a in self.ahead[one]]
        if word == "second":
            found = [self._state(one, b, 1, state[5]) for b in self.ahead[other]]
        return sorted(set(found))

    def takes(self, state, later):
        """The values that lanes 0 and 1 take in a step to a later state, None for one that takes none."""
        row = self.does(state)
        if self.program.rows[row][0] != "take":
            return (None, None)
        place = self.program.registers.index(self.program.rows[row][1])
        one = later[1][place] if state[4] != "second" else None
        return (one, later[3][place] if state[4] != "first" else None)

    def _behind_both(self, row, one, other):
        if self.rule not in PILE_RULES:
            return self._state(one, other, 0, self.end)
        if one[0] == other[0]:
            return (*one, *other, "over" if one[0] == self.end else "both", self.end)
        # Only a branch parts lanes; those that go to the next row are the top of the pile.
        return self._state(one, other, 0 if one[0] == row + 1 else 1, self.joins[row])

    def _state(self, one, other, top, join):
        """The pair state of lanes at two places; by a pile apart, if both are alive, lane top above, with this join."""
        if one[0] == self.end or other[0] == self.end or self.rule not in PILE_RULES:
            return (*one, *other, self.next_word(one[0], other[0]), self.end)
        return (*one, *other, *self._next_by_pile((one[0], other[0]), top, join))

    def _next_by_pile(self, rows, top, join):
        if rows[top] == join:
            # The top entry is over, so the other arm goes on, if it is not over, too.
            top = 1 - top
        if rows[top] == join:
            return ("both", self.end)
        return (f"{WORDS[top]} stands" if self.is_meeting(rows[top]) else WORDS[top], join)

    def next_word(self, one, other):
        """How lanes at two rows, or the end, go on where no pile tells it."""
        if one == self.end:
            return "over" if other == self.end else "second"
        if other == self.end:
            return "first"
        if one == other:
            return "both"
        if self.is_meeting(one):
            return "stands" if self.is_meeting(other) else "second"
        if self.is_meeting(other):
            return "first"
        return "first" if (one < other) == (self.rule == "least") else "second"

    def is_meeting(self, row):
        """Whether a row is a meeting."""
        return self.program.rows[row][0] == "meet"


def first_state(program):
    """The pair state at the beginning."""
    zeros = first_class(program)
    return (0, zeros, 0, zeros, "both", program.end)


class Graph:
    """The pair states that any two data come to: their steps, and how few steps lead to them."""

    def __init__(self, program, rule):
        ask_plain(program, rule)
        self.program = program
        self.rule = rule
        self.moves = Moves(program, rule)
        self.start = first_state(program)
        self.behind = {}
        self.depths = {self.start: 0}
        self.layers = []
        layer = [self.start]
        while len(layer) > 0:
            self.layers.append(layer)
            layer = self._next_layer(layer)

    def _next_layer(self, layer):
        depth = len(self.layers)
        found = []
        for state in layer:
            states = self.moves.steps(state)
            self.behind[state] = states
            for later in states:
                if later not in self.depths:
                    self.depths[later] = depth
                    found.append(later)
        if len(self.depths) > MOST_STATES:
            raise TooMany(MOST_STATES)
        return found

    def steps(self, state):
        """The pair states behind one step; this list is not to be changed."""
        return self.behind[state]

    def does(self, state):
        """The row that is done next, or None."""
        return self.moves.does(state)

    def takes(self, state, later):
        """The values that lanes 0 and 1 take in a step."""
        return self.moves.takes(state, later)


def stuck_rows(state):
    """The rows of the meetings that stand in a pair state."""
    if state[4] == "stands":
        return [state[0], state[2]]
    if state[4] == "first stands":
        return [state[0]]
    return [state[2]] if state[4] == "second stands" else []


def can_stand(graph):
    """Whether two lanes come to a pair state in which a meeting stands."""
    return any([len(stuck_rows(state)) > 0 for state in graph.behind])
