"""Sieves: what rows make of many crowds at once.

A crowd is told by a number whose bits stand for classes, and a set of crowds by one whose bits stand for the numbers of
crowds. So what happens to the lanes of a class is done for all crowds of a set by a few operations.
"""

from partedlanes.checks import CHANGING


class Sieve:
    """Sets of the crowds of a program: which of them have or lack lanes of each class, and what rows make of them."""

    def __init__(self, program):
        self.program = program
        self.kinds = program.classes()
        self.places = {kind: place for place, kind in enumerate(self.kinds)}
        self.every = (1 << (1 << len(self.kinds))) - 1
        # Those numbers of crowds that lack a bit stand in blocks as long as the bit is worth.
        self.lacking = [self.every // ((1 << (1 << place)) + 1) for place in range(len(self.kinds))]
        self.having = [self.every ^ some for some in self.lacking]
        self.plans = {}
        self.sides = {}
        self.sizes = []

    def code_of(self, crowd):
        """The number of a crowd."""
        return sum([1 << self.places[kind] for kind in crowd])

    def later(self, index):
        """The row, or the end, at which lanes go on from a row that is no branch."""
        row = self.program.rows[index]
        if row[0] == "go":
            return row[1]
        return self.program.end if row[0] == "end" else index + 1

    def onward(self, index, some):
        """Tuples (row or end, set) of what comes of a set of crowds by a row, for those whose lanes do not part."""
        row = self.program.rows[index]
        if row[0] == "if":
            here, there = self._sides(index, row)
            return [(index + 1, some & here), (row[3], some & there)]
        if row[0] in CHANGING:
            told, ones, zeros, spreads = self._plan(row)
            if told > 0:
                zeros_come = self._moved(some & ~told, zeros)
                return [(index + 1, zeros_come | self._moved(some & told, ones))]
            return [(index + 1, self._spread(self._moved(some, ones), spreads))]
        return [(self.later(index), some)]

    def parted(self, index, some):
        """Those of a set of crowds whose lanes part at a row."""
        row = self.program.rows[index]
        if row[0] != "if":
            return 0
        here, there = self._sides(index, row)
        return some & ~(here | there)

    def before(self, index, later):
        """All crowds that a row leads to some of these without parting; later: a dict of rows or the end, and sets."""
        row = self.program.rows[index]
        if row[0] == "if":
            here, there = self._sides(index, row)
            return (here & later.get(index + 1, 0)) | (there & later.get(row[3], 0))
        some = later.get(self.later(index), 0)
        if some == 0 or row[0] not in CHANGING:
            return some
        told, ones, zeros, spreads = self._plan(row)
        if told > 0:
            return (self._unmoved(some, ones) & told) | (self._unmoved(some, zeros) & ~told)
        return self._unmoved(self._unspread(some, spreads), ones)

    def joined(self, some, code):
        """What comes of a set of crowds if the lanes of one more crowd come to each."""
        for place in codes_of(code):
            some = (some & self.having[place]) | ((some & self.lacking[place]) << (1 << place))
        return some

    def smallest(self, some):
        """The number of one of the crowds of a set that have fewest classes."""
        for crowds in self.by_sizes():
            if some & crowds > 0:
                return codes_of(some & crowds)[0]
        return 0

    def by_sizes(self):
        """The sets of the crowds with one class, with two, and so on."""
        if len(self.sizes) == 0:
            sizes = [1] + [0 for _ in self.kinds]
            for place in range(len(self.kinds)):
                sizes = [sizes[0], *[more | (less << (1 << place)) for less, more in zip(sizes[:-1], sizes[1:])]]
            self.sizes = sizes[1:]
        return self.sizes

    def _moved(self, some, moves):
        """What comes of crowds if all lanes of some classes get others; none of these others is given up itself."""
        for old, new in moves:
            gone = (some & self.having[old]) >> (1 << old)
            some = (some & self.lacking[old]) | (gone & self.having[new]) | ((gone & self.lacking[new]) << (1 << new))
        return some

    def _unmoved(self, some, moves):
        for old, new in moves:
            held = some & self.lacking[old] & self.having[new]
            some = (some & self.lacking[old]) | ((held | (held >> (1 << new))) << (1 << old))
        return some

    def _spread(self, some, spreads):
        """What comes of crowds if lanes that have taken 0 may have taken any values."""
        for places, codes in spreads:
            free = (some & self.having[places[0]]) >> (1 << places[0])
            some = some & self.lacking[places[0]]
            for code in codes:
                some = some | (free << code)
        return some

    def _unspread(self, some, spreads):
        for places, codes in spreads:
            free = 0
            for code in codes:
                exact = some
                for place in places:
                    exact = exact & (self.having[place] if (code >> place) & 1 else self.lacking[place])
                free = free | (exact >> code)
            for place in places:
                some = some & self.lacking[place]
            some = some | (free << (1 << places[0]))
        return some

    def _plan(self, row):
        """What a row does with crowds: (told, ones, zeros, spreads).

        If it steers, told is the set of the crowds of which it tells 1, ones and zeros are the classes that change then
        or otherwise; else told is 0, ones are all that change, and spreads tell what may be taken behind it.
        """
        if row not in self.plans:
            if row[0] == "take":
                self.plans[row] = (0, self._moves(row[1], 0), [], self._spreads(row[1]))
            elif row[0] == "set":
                self.plans[row] = (0, self._moves(row[1], row[2]), [], [])
            elif row[0] == "copy":
                self.plans[row] = (0, self._moves_of_copy(row), [], [])
            else:
                self.plans[row] = (self._that_tell(row), self._moves(row[-1], 1), self._moves(row[-1], 0), [])
        return self.plans[row]

    def _sides(self, index, row):
        """The sets of those crowds whose lanes all go to the next row of a branch, or all to the other one."""
        if index not in self.sides:
            if row[3] == index + 1:
                self.sides[index] = (self.every, 0)
            else:
                others = [value for value in range(self.program.size) if value != row[2]]
                self.sides[index] = (self._with(row[1], others), self._with(row[1], [row[2]]))
        return self.sides[index]

    def _with(self, word, values):
        """All crowds whose lanes have only these values in a register."""
        place = self.program.places[word]
        some = self.every
        for at, kind in enumerate(self.kinds):
            if kind[place] not in values:
                some = some & self.lacking[at]
        return some

    def _that_tell(self, row):
        """All crowds of which a row that steers tells 1."""
        values = list(range(self.program.size))
        if row[0] == "all":
            return self._with(row[1], [row[2]])
        if row[0] == "any":
            return self.every ^ self._with(row[1], [value for value in values if value != row[2]])
        some = 0
        for value in values:
            some = some | self._with(row[1], [value])
        return some

    def _moves(self, word, value):
        """The classes that change if a register gets a value, and what they become, by their places."""
        changed, places = self.program.changed[word][value], self.places
        return [(places[kind], places[changed[kind]]) for kind in self.kinds if changed[kind] != kind]

    def _moves_of_copy(self, row):
        changed, place = self.program.changed[row[1]], self.program.places[row[2]]
        laters = {kind: changed[kind[place]][kind] for kind in self.kinds}
        return [(self.places[kind], self.places[laters[kind]]) for kind in self.kinds if laters[kind] != kind]

    def _spreads(self, word):
        """For each class with 0 in a register: the places of this class with all values there, and of some of these."""
        changed, at = self.program.changed[word], self.program.places[word]
        found = []
        for kind in self.kinds:
            if kind[at] == 0:
                places = [self.places[changed[value][kind]] for value in range(self.program.size)]
                codes = [0]
                for place in places:
                    codes = [*codes, *[code + (1 << place) for code in codes]]
                found.append((places, codes[1:]))
        return found


def many_of(some):
    """How many crowds a set has."""
    return f"{some:b}".count("1")


def codes_of(some):
    """The numbers of the crowds of a set, ascending."""
    if some & (some - 1) == 0:
        return [some.bit_length() - 1] if some > 0 else []
    return [code for code, sign in enumerate(f"{some:b}"[::-1]) if sign == "1"]
