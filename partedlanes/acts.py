"""What the rows of a program do with the lanes that do them together."""

from partedlanes.checks import STEERING


def first_class(program):
    """What the registers of a lane have at the beginning."""
    return (0,) * len(program.registers)


def next_row(program, index, registers):
    """The row, or the end, at which a lane of this class goes on from a row."""
    row = program.rows[index]
    if row[0] == "if":
        return row[3] if registers[program.places[row[1]]] == row[2] else index + 1
    if row[0] == "go":
        return row[1]
    return program.end if row[0] == "end" else index + 1


def classes_behind(program, index, classes, values):
    """The classes behind a row that lanes of these classes do together; values: what each one would take."""
    row = program.rows[index]
    word = row[0]
    if word == "take":
        changed = program.changed[row[1]]
        return [changed[value][registers] for registers, value in zip(classes, values)]
    if word == "set":
        changed = program.changed[row[1]][row[2]]
        return [changed[registers] for registers in classes]
    if word == "copy":
        changed, place = program.changed[row[1]], program.places[row[2]]
        return [changed[registers[place]][registers] for registers in classes]
    if word in STEERING:
        changed = program.changed[row[-1]][told_by(program, row, classes)]
        return [changed[registers] for registers in classes]
    return list(classes)


def told_by(program, row, classes):
    """What a row that steers tells lanes of these classes that do it together."""
    place = program.places[row[1]]
    held = [registers[place] for registers in classes]
    if row[0] == "any":
        return int(row[2] in held)
    wanted = row[2] if row[0] == "all" else held[0]
    return int(held.count(wanted) == len(held))
