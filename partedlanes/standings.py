"""Standings: how the lanes of a machine stand ahead of a step, and what rows do with them."""

from partedlanes.acts import first_class, told_by

EVENTS = ("group", "meet", "any", "all", "same")


class Standing:
    """What a machine keeps of its lanes, whatever its rule: where each one is, its class, how many values it has taken.

    `condition` is "goes", "stands" or "over". A class below this one has `do()`, which does a row and tells it, and
    `copied()`, an equal standing that goes on by itself.
    """

    def __init__(self, program, digits):
        many = len(digits)
        self.program = program
        self.digits = digits
        self.condition = "goes"
        self.where = [0] * many
        self.kinds = [first_class(program)] * many
        self.taken = [0] * many
        self.living = tuple(range(many))
        self.log = []
        self.many_done = 0

    def take_over(self, other):
        """Makes all that is kept here as it is in another standing."""
        self.condition = other.condition
        self.where = list(other.where)
        self.kinds = list(other.kinds)
        self.taken = list(other.taken)
        self.living = other.living
        self.log = list(other.log)
        self.many_done = other.many_done

    def done(self, index, lanes):
        """Does a row with the registers of the lanes that do it together, and tells where they go on.

        This is a list of one or two tuples (row, lanes), that of the next row ahead.
        """
        row = self.program.rows[index]
        word = row[0]
        self.many_done += 1
        if word in EVENTS:
            self.log.append((index, lanes))
        if word == "if":
            return self._parted(index, row, lanes)
        if word == "go":
            return [(row[1], lanes)]
        if word == "end":
            return [(self.program.end, lanes)]
        if word == "take":
            self._take(self.program.changed[row[1]], lanes)
        elif word != "group" and word != "meet":
            self._change(row, lanes)
        return [(index + 1, lanes)]

    def _parted(self, index, row, lanes):
        kinds, place = self.kinds, self.program.places[row[1]]
        there = tuple([lane for lane in lanes if kinds[lane][place] == row[2]])
        if len(there) == len(lanes):
            return [(row[3], lanes)]
        if len(there) == 0 or row[3] == index + 1:
            return [(index + 1, lanes)]
        return [(index + 1, tuple([lane for lane in lanes if lane not in there])), (row[3], there)]

    def _take(self, changed, lanes):
        kinds, taken = self.kinds, self.taken
        for lane in lanes:
            digits, place = self.digits[lane], taken[lane]
            value = digits[place] if place < len(digits) else 0
            kinds[lane] = changed[value][kinds[lane]]
            taken[lane] = place + 1

    def _change(self, row, lanes):
        """Does a row that sets a register, copies one or steers."""
        kinds, program = self.kinds, self.program
        if row[0] == "copy":
            changed, place = program.changed[row[1]], program.places[row[2]]
            for lane in lanes:
                kinds[lane] = changed[kinds[lane][place]][kinds[lane]]
            return
        if row[0] == "set":
            changed = program.changed[row[1]][row[2]]
        else:
            changed = program.changed[row[-1]][told_by(program, row, [kinds[lane] for lane in lanes])]
        for lane in lanes:
            kinds[lane] = changed[kinds[lane]]

    def move(self, later, lanes):
        """Some lanes go on at a row, or end; tells those of them that are alive."""
        where = self.where
        for lane in lanes:
            where[lane] = later
        if later != self.program.end:
            return lanes
        self.living = tuple([lane for lane in self.living if lane not in lanes])
        return ()
