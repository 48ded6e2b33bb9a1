"""Data that lanes take, and lanes that run alone."""

from partedlanes.acts import classes_behind, first_class, next_row
from partedlanes.checks import is_between, is_whole
from partedlanes.digits import MOST_VALUES, are_below, are_values, without_zeros
from partedlanes.errors import BadData, BadNumber
from partedlanes.guards import ask_most, ask_program


class Data:
    """The values that a lane takes, one after another; 0 behind the last one."""

    def __init__(self, *values):
        if not are_values(values):
            raise BadData(values)
        self.digits = without_zeros(values)

    @staticmethod
    def of(values):
        """The data of a list or tuple of values."""
        if not isinstance(values, (list, tuple)):
            raise BadData(values)
        return Data(*values)

    def __eq__(self, other):
        return isinstance(other, Data) and self.digits == other.digits

    def __len__(self):
        return len(self.digits)

    def __repr__(self):
        texts = [str(value) for value in self.digits]
        return f"Data({', '.join(texts)})"

    def __getitem__(self, index):
        if not is_whole(index) or index < 0:
            raise BadNumber(index)
        return self.digits[index] if index < len(self.digits) else 0

    def __iter__(self):
        raise TypeError("take the digits of data to go over them")

    def __add__(self, other):
        values = (*self.digits, *_values_of(other))
        if len(values) > MOST_VALUES:
            raise BadData(other)
        return Data(*values)

    def __radd__(self, other):
        values = (*without_zeros(_values_of(other)), *self.digits)
        if len(values) > MOST_VALUES:
            raise BadData(other)
        return Data(*values)

    def __mul__(self, other):
        if not is_between(other, 0, MOST_VALUES):
            raise BadNumber(other)
        values = self.digits * other
        if len(values) > MOST_VALUES:
            raise BadData(other)
        return Data(*values)

    def __rmul__(self, other):
        return self * other


def _values_of(other):
    # Only data lose the zeros at their end by themselves: those of a list count.
    if isinstance(other, Data):
        return other.digits
    if not isinstance(other, (list, tuple)) or not are_values(other):
        raise BadData(other)
    return tuple(other)


class Alone:
    """A lane that runs alone, from row 0 on."""

    def __init__(self, program, data):
        ask_program(program)
        if not isinstance(data, Data) or not are_below(data.digits, program.size):
            raise BadData(data)
        self.program = program
        self.data = data
        self.row = 0
        self.registers = first_class(program)
        self.many_taken = 0

    def __eq__(self, other):
        return (
            isinstance(other, Alone)
            and self.program == other.program
            and self.data == other.data
            and self.row == other.row
            and self.registers == other.registers
            and self.many_taken == other.many_taken
        )

    def step(self):
        """Does one row and returns its number, or None if the lane has ended."""
        if self.row == self.program.end:
            return None
        done = self.row
        value = self.data[self.many_taken]
        self.row = next_row(self.program, done, self.registers)
        self.registers = classes_behind(self.program, done, [self.registers], [value])[0]
        if self.program.rows[done][0] == "take":
            self.many_taken += 1
        return done

    def go(self, most):
        """The numbers of the rows that the lane does until it has ended or most are done."""
        ask_most(most)
        done = []
        while len(done) < most and self.row != self.program.end:
            done.append(self.step())
        return done

    def copy(self):
        """An equal lane, which goes on by itself."""
        made = Alone(self.program, self.data)
        made.row = self.row
        made.registers = self.registers
        made.many_taken = self.many_taken
        return made
