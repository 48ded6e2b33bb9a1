"""The document's words about scenes done once more, as plainly as can be, to compare the package with."""

import itertools

from partedlanes.programs import Program
from partedlanes.roads import joins_of

STEERING = ("any", "all", "same")


class Rules:
    """What point 21 asks of the scenes of a table, and points 24 and 25 besides.

    A table is a dict of scenes, each with a dict of its arrivals and their numbers of steps.
    """

    def __init__(self, program, rule, counted=False):
        self.program, self.counted, self.end = program, counted, program.end
        self.joins = joins_of(program, rule)

    def crowd(self, classes):
        return tuple(sorted(classes if self.counted else set(classes)))

    def first(self, lanes=1):
        return (0, self.end, ((0,) * len(self.program.registers),) * lanes, False)

    def value(self, kind, word):
        return kind[self.program.registers.index(word)]

    def changed(self, kind, word, value):
        return tuple(value if name == word else part for name, part in zip(self.program.registers, kind))

    def crowds(self, row, crowd):
        """The crowds that a row which is no branch leaves."""
        word = row[0]
        if word == "take":
            ways = [[self.changed(kind, row[1], value) for value in range(self.program.size)] for kind in crowd]
            if self.counted:
                return {self.crowd(kinds) for kinds in itertools.product(*ways)}
            some = [[part for many in range(1, len(way) + 1) for part in itertools.combinations(way, many)]
                    for way in ways]
            return {self.crowd(itertools.chain(*parts)) for parts in itertools.product(*some)}
        return {self.crowd([self.after(row, kind, crowd) for kind in crowd])}

    def after(self, row, kind, crowd):
        word = row[0]
        if word == "set":
            return self.changed(kind, row[1], row[2])
        if word == "copy":
            return self.changed(kind, row[1], self.value(kind, row[2]))
        if word in STEERING:
            held = [self.value(other, row[1]) for other in crowd]
            told = {"any": row[2] in held, "all": set(held) == {row[2]}, "same": len(set(held)) == 1}[word]
            return self.changed(kind, row[-1], int(told))
        return kind

    def way(self, index, kind):
        row = self.program.rows[index]
        if row[0] == "if":
            return row[3] if self.value(kind, row[1]) == row[2] else index + 1
        return {"go": row[-1], "end": self.end}.get(row[0], index + 1)

    def asks(self, scene, table):
        """What a table has to tell as it tells this scene.

        Tuples ("leads", scene, steps ahead of it) and ("comes", arrival, number).
        """
        index, join, crowd, outside = scene
        row = self.program.rows[index]
        if row[0] == "meet" and outside:
            return
        rows = {kind: self.way(index, kind) for kind in crowd}
        if len(set(rows.values())) == 1:
            later = rows[crowd[0]]
            for left in self.crowds(row, crowd):
                yield from self.passed(later, join, left, outside, 1, table)
            return
        arms = [self.crowd([kind for kind in crowd if (rows[kind] == index + 1) == here]) for here in (True, False)]
        yield from self.parted(index, join, arms, outside, table)

    def passed(self, row, join, crowd, outside, ahead, table):
        """What the first scene has to have as lanes are at a row."""
        if row == self.end:
            yield ("comes", (), ahead)
        elif row == join:
            yield ("comes", crowd, ahead)
        else:
            later = (row, join, crowd, outside)
            yield ("leads", later, ahead)
            for arrival, number in table.get(later, {}).items():
                yield ("comes", arrival, ahead + number)

    def parted(self, index, join, arms, outside, table):
        to, rejoin = self.program.rows[index][3], self.joins[index]
        for kind, first, number in self.passed(index + 1, rejoin, arms[0], outside or to != self.end, 0, table):
            if kind == "leads":
                yield (kind, first, 1 + number)
                continue
            out = outside or first != ()
            for word, second, more in self.passed(to, rejoin, arms[1], out, 0, table):
                if word == "leads":
                    yield (word, second, 1 + number + more)
                    continue
                both = self.crowd(first + second)
                steps = 1 + number + more
                if rejoin == join or both == ():
                    yield ("comes", both, steps)
                elif rejoin == self.end:
                    yield ("comes", (), steps)
                else:
                    later = (rejoin, join, both, outside)
                    yield ("leads", later, steps)
                    for arrival, rest in table.get(later, {}).items():
                        yield ("comes", arrival, steps + rest)

    def least(self, lanes=1):
        """The least table, its numbers all 0."""
        table = {self.first(lanes): {}}
        size = -1
        while size != sum(1 + len(arrivals) for arrivals in table.values()):
            size = sum(1 + len(arrivals) for arrivals in table.values())
            for scene in list(table):
                for kind, what, _ in list(self.asks(scene, table)):
                    if kind == "leads":
                        table.setdefault(what, {})
                    else:
                        table[scene][what] = 0
        return table

    def is_table(self, table, lanes=1):
        """Whether a dict of scenes and collections of arrivals is a table."""
        table = {scene: dict.fromkeys(arrivals, 0) for scene, arrivals in table.items()}
        return self.first(lanes) in table and all(
            what in (table if kind == "leads" else table[scene])
            for scene in table for kind, what, _ in self.asks(scene, table))

    def leads(self, scene, table):
        """The scenes to which a scene leads."""
        return {what for kind, what, _ in self.asks(scene, table) if kind == "leads"}

    def is_endless(self, table):
        """Whether there is a ring: whether scenes are left when those that lead to none that are left are taken."""
        left = {scene: self.leads(scene, table) for scene in table}
        gone = True
        while gone:
            gone = [scene for scene in left if not any(later in left for later in left[scene])]
            for scene in gone:
                del left[scene]
        return len(left) > 0

    def shortest(self, table):
        """How few steps there are from the beginning to each scene, and from there to each of its arrivals."""
        far = 10 ** 9
        numbers = {scene: dict.fromkeys(table[scene], far) for scene in table}
        steps = {scene: 0 if scene == self.first() else far for scene in table}
        before = None
        while before != (steps, numbers):
            before = (dict(steps), {scene: dict(numbers[scene]) for scene in table})
            for scene in table:
                for kind, what, ahead in list(self.asks(scene, numbers)):
                    if kind == "leads":
                        steps[what] = min(steps[what], steps[scene] + ahead)
                    else:
                        numbers[scene][what] = min(numbers[scene][what], ahead)
        return steps, numbers

    def longest(self, table):
        """The lengths of all scenes, and the table with their numbers, where there is no ring."""
        lengths, numbers = dict.fromkeys(table, 0), {scene: dict(table[scene]) for scene in table}
        before = None
        while before != (lengths, numbers):
            before = (dict(lengths), {scene: dict(numbers[scene]) for scene in table})
            for scene in table:
                for kind, what, steps in list(self.asks(scene, numbers)):
                    if kind == "leads":
                        steps += lengths[what]
                    else:
                        numbers[scene][what] = max(numbers[scene][what], steps)
                    lengths[scene] = max(lengths[scene], steps)
                stuck = self.program.rows[scene[0]][0] == "meet" and scene[3]
                lengths[scene] = max(lengths[scene], 0 if stuck else 1)
        return lengths, numbers


def forward_program(chance, most, back=0.0, size=None):
    """Any program whose branches mostly lead forward, with rows that steer; back: how often they do not."""
    end = chance.randint(4, most)
    registers, values = size or chance.choice([(("x",), 2), (("x",), 3), (("x", "y"), 2)])
    rows = []
    for index in range(end):
        word, other, value = chance.choice(registers), chance.choice(registers), chance.randrange(values)
        to = chance.randint(0, end) if chance.random() < back else min(end, index + chance.randint(2, 6))
        join = chance.choice([to, min(end, to + chance.randint(0, 3)), end, chance.randint(0, end)])
        kinds = [("take", word)] * 5 + [("if", word, value, to, join)] * 8 + [("go", to)] * 2 + [
            ("group", "see", None), ("group", "see", None), ("meet", "all"), ("any", word, value, other),
            ("all", word, value, other), ("same", word, other), ("set", word, value), ("copy", word, other), ("end",)]
        rows.append(("take", word) if index == 0 else chance.choice(kinds))
    return Program(rows, registers=registers, values=values)


def many_pairs():
    """A program whose arms have hundreds of arrivals each, at hundreds of scenes."""
    return Program([("take", "x"), ("take", "y"), ("if", "x", 1, 5, 7), ("take", "x"), ("go", 7), ("take", "y"),
                    ("take", "x"), ("group", "a", None)], registers=("x", "y"), values=3)


def leavers(way, value):
    """A program in which those that take this value leave by a row and end, ahead of row 8; some have to, and some not.

    Rows 9 and 10 come to the end, too, which is row 11; rows 5 and 6 make all lanes alike.
    """
    return Program([("take", "x"), ("same", "x", "y"), ("if", "y", 1, 2, 2), ("if", "x", value, way, 5), ("go", 5),
                    ("set", "x", 0), ("set", "y", 0), ("take", "x"), ("group", "a", None), ("go", 10), ("end",)],
                   registers=("x", "y"))


def fellows(levels):
    """A program whose last row needs two to the power of so many lanes; its number, too.

    On each level those that are together have to take unlike values, or they go round for ever, and they then part.
    """
    joins = 5 * levels - 2
    rows = []
    for place in range(levels):
        first, join = 5 * place, joins + levels - 2 - place
        rows += [("take", "x"), ("same", "x", "y"), ("if", "y", 1, first + 2, first + 2),
                 ("if", "x", 1, first + 5, join), ("go", first + 5)]
    rows = [*rows[:joins], *[("set", "x", 0)] * (levels - 1), ("group", "a", None)]
    return Program(rows, registers=("x", "y")), len(rows) - 1
