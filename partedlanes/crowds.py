"""Crowds, told by numbers, and what rows make of them."""

from partedlanes.acts import classes_behind, next_row
from partedlanes.checks import CHANGING, is_between

# How many bits of a number stand for each class: whether it is there, or how many lanes have it.
ONE_BIT = 1
COUNT_BITS = 32


class Crowds:
    """The crowds of a program, each told by a number; 0 stands for no lanes at all.

    Each class has its own bits in such a number: one, or, where lanes are counted, as many as counts may need. So two
    crowds are together `one | other`, or, where lanes are counted, `one + other`.
    """

    def __init__(self, program, counted):
        self.program = program
        self.counted = counted
        self.width = COUNT_BITS if counted else ONE_BIT
        self.full = (1 << self.width) - 1
        self.kinds = program.classes()
        self.units = {kind: 1 << (self.width * place) for place, kind in enumerate(self.kinds)}
        self.masks = {index: self._mask(index) for index in program.branches()}
        self.words = [row[0] for row in program.rows]
        self.known_moves = {}
        self.known_crowds = {0: ()}
        self.known_spreads = {}
        self.known_weights = {}

    def _mask(self, index):
        """The bits of the classes whose lanes do not go to the next row from a branch."""
        return sum([
            self.full * unit for kind, unit in self.units.items()
            if next_row(self.program, index, kind) != index + 1
        ])

    def code_of(self, classes):
        """The number of the crowd of lanes of these classes, in any order."""
        kinds = classes if self.counted else sorted(set(classes))
        return sum([self.units[kind] for kind in kinds])

    def crowd_of(self, code):
        """The crowd that a number tells, as a tuple of classes."""
        if code not in self.known_crowds:
            place = (code.bit_length() - 1) // self.width
            many = code >> (self.width * place)
            rest = self.crowd_of(code - (many << (self.width * place)))
            self.known_crowds[code] = (*rest, *[self.kinds[place] for _ in range(many)])
        return self.known_crowds[code]

    def parted(self, index, code):
        """The crowds that go to the next row from a branch, and to the other one."""
        there = code & self.masks[index]
        return (code - there, there)

    def moved(self, index, code):
        """The crowd behind a row, which behind a take is told as if all lanes took 0."""
        if self.words[index] not in CHANGING:
            return code
        if (index, code) not in self.known_moves:
            crowd = self.crowd_of(code)
            classes = classes_behind(self.program, index, crowd, (0,) * len(crowd))
            self.known_moves[(index, code)] = self.code_of(classes)
        return self.known_moves[(index, code)]

    def spread(self, index, code):
        """All crowds that a take can leave of what is told behind it as if all lanes took 0."""
        if (index, code) not in self.known_spreads:
            found = [0]
            for kind in sorted(set(self.crowd_of(code))):
                shares = self._shares(index, kind, (code // self.units[kind]) & self.full)
                found = [start + share for start in found for share in shares]
            self.known_spreads[(index, code)] = found
        return self.known_spreads[(index, code)]

    def _shares(self, index, kind, many):
        """The crowds of lanes that have taken any values, and have all else as in this class."""
        word = self.program.rows[index][1]
        units = [self.units[changed[kind]] for changed in self.program.changed[word]]
        return shares_of(units, many) if self.counted else choices_of(units)

    def weight(self, index, code):
        """How many classes or lanes a crowd has, and how great the values are that these took, together."""
        if (index, code) not in self.known_weights:
            place = self._place(index)
            self.known_weights[(index, code)] = sum([1 + kind[place] for kind in self.crowd_of(code)])
        return self.known_weights[(index, code)]

    def _place(self, index):
        return self.program.places[self.program.rows[index][1]]


def choices_of(units):
    """The sums of some of the units, at least one."""
    found = [0]
    for unit in units:
        found = [*found, *[start + unit for start in found]]
    return found[1:]


def shares_of(units, many):
    """The sums of so many units, each as often as one likes."""
    if len(units) == 1:
        return [units[0] * many]
    return [
        units[0] * count + rest for count in range(many + 1) for rest in shares_of(units[1:], many - count)
    ]


def is_crowd(program, value, counted):
    """Whether any value is a crowd of a program, or, where lanes are counted, a counted one."""
    if not isinstance(value, tuple) or len(value) == 0:
        return False
    if not all([is_class(program, kind) for kind in value]):
        return False
    return all([one < other or (counted and one == other) for one, other in zip(value[:-1], value[1:])])


def is_class(program, value):
    """Whether any value is a class of a program."""
    if not isinstance(value, tuple) or len(value) != len(program.registers):
        return False
    return all([is_between(part, 0, program.size - 1) for part in value])
