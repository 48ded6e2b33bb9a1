"""What the rows of a program do with the lanes that do them together."""

from partedlanes.programs import STEERING


def first_class(program):
    """What the registers of a lane have at the beginning."""
    return (0,) * len(program.registers)


def next_row(program, index, registers):
    """The row, or the end, at which a lane of this class goes on from a row."""
    row = program.rows[index]
    if row[0] == "if":
        return row[3] if registers[_place(program, row[1])] == row[2] else index + 1
    if row[0] == "go":
        return row[1]
    if row[0] == "end":
        return program.end
    return index + 1


def classes_behind(program, index, classes, values):
    """The classes behind a row that lanes of these classes do together; values: what each one would take."""
    row = program.rows[index]
    if row[0] in STEERING:
        told = _told(program, row, classes)
        return [_changed(program, row[-1], told, registers) for registers in classes]
    return [_class_behind(program, row, registers, value) for registers, value in zip(classes, values)]


def _class_behind(program, row, registers, value):
    if row[0] == "set":
        return _changed(program, row[1], row[2], registers)
    if row[0] == "copy":
        return _changed(program, row[1], registers[_place(program, row[2])], registers)
    if row[0] == "take":
        return _changed(program, row[1], value, registers)
    return registers


def _told(program, row, classes):
    held = [registers[_place(program, row[1])] for registers in classes]
    if row[0] == "any":
        return int(row[2] in held)
    wanted = row[2] if row[0] == "all" else held[0]
    return int(all([value == wanted for value in held]))


def _changed(program, word, value, registers):
    place = _place(program, word)
    return (*registers[:place], value, *registers[place + 1:])


def _place(program, word):
    return program.registers.index(word)
