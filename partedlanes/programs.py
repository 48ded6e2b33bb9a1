"""Programs: rows that lanes do, checked once and never changed."""

from partedlanes.checks import MOST_ROWS, STEERING, are_registers, is_between, is_row, is_whole
from partedlanes.errors import BadJoins, BadNumber, BadRegisters, BadRow, BadRows


class Program:
    """Rows, numbered from 0 on, with the registers and the number of values that lanes have."""

    def __init__(self, rows, *, registers=("x",), values=2):
        if not are_registers(registers):
            raise BadRegisters(registers)
        if not is_between(values, 2, 3):
            raise BadNumber(values)
        if not isinstance(rows, (list, tuple)) or not 1 <= len(rows) <= MOST_ROWS:
            raise BadRows(rows)
        for index, row in enumerate(rows):
            if not is_row(row, registers, values, len(rows)):
                raise BadRow(index)
        self.registers = tuple(registers)
        self.size = values
        self.rows = tuple(rows)
        self.end = len(rows)
        self.places = {word: place for place, word in enumerate(registers)}
        # For each register and value: what each class becomes if the register gets the value.
        self.changed = {word: self._changed_at(place) for word, place in self.places.items()}

    def __eq__(self, other):
        return (
            isinstance(other, Program)
            and self.rows == other.rows
            and self.registers == other.registers
            and self.size == other.size
        )

    def __len__(self):
        return len(self.rows)

    def __getitem__(self, index):
        if not is_between(index, 0, self.end - 1):
            raise BadNumber(index)
        return self.rows[index]

    def __iter__(self):
        raise TypeError("take the rows of a program to go over them")

    def branches(self):
        """The numbers of the branches, ascending."""
        return self._of_kinds(("if",))

    def steering(self):
        """The numbers of the rows that steer, ascending."""
        return self._of_kinds(STEERING)

    def groups(self):
        """The numbers of the group operations, ascending."""
        return self._of_kinds(("group",))

    def meets(self):
        """The numbers of the meetings, ascending."""
        return self._of_kinds(("meet",))

    def _of_kinds(self, kinds):
        return [index for index, row in enumerate(self.rows) if row[0] in kinds]

    def is_plain(self):
        """Whether no row steers."""
        return len(self.steering()) == 0

    def classes(self):
        """All tuples of values of the registers, ascending."""
        found = [()]
        for _ in self.registers:
            found = [(*start, value) for start in found for value in range(self.size)]
        return found

    def ways(self, index):
        """The numbers at which a lane goes on from a row, ascending, each once."""
        if not is_between(index, 0, self.end - 1):
            raise BadNumber(index)
        row = self.rows[index]
        if row[0] == "if":
            return sorted(set([row[3], index + 1]))
        if row[0] == "go":
            return [row[1]]
        if row[0] == "end":
            return [self.end]
        return [index + 1]

    def _changed_at(self, place):
        kinds = self.classes()
        if place == 0:
            return [{kind: (value, *kind[1:]) for kind in kinds} for value in range(self.size)]
        return [{kind: (kind[0], value) for kind in kinds} for value in range(self.size)]

    def with_row(self, index, row):
        """A program with another row."""
        if not is_between(index, 0, self.end - 1):
            raise BadNumber(index)
        if not is_row(row, self.registers, self.size, self.end):
            raise BadRow(row)
        return self._with_rows((*self.rows[:index], row, *self.rows[index + 1:]))

    def with_joins(self, joins):
        """A program in which these branches have other joins."""
        if not self._are_joins(joins):
            raise BadJoins(joins)
        rows = list(self.rows)
        for index, join in joins.items():
            rows[index] = (*rows[index][:4], join)
        return self._with_rows(rows)

    def _are_joins(self, joins):
        if not isinstance(joins, dict):
            return False
        branches = self.branches()
        return all([
            is_whole(index) and index in branches and is_between(join, 0, self.end)
            for index, join in joins.items()
        ])

    def _with_rows(self, rows):
        return Program(rows, registers=self.registers, values=self.size)
