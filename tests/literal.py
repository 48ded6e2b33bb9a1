"""The document's words done once more, as plainly as can be, to compare the package with."""

import random

from partedlanes.lanes import Data
from partedlanes.programs import Program

KINDS = ["set", "copy", "take", "take", "take", "if", "if", "if", "if", "go", "go", "group", "group", "meet", "end"]


class Lanes:
    """Lanes of a program by a rule, as points 4, 10 and 11 tell them; joins: where the branches rejoin."""

    def __init__(self, program, datas, rule, joins):
        self.program, self.rule, self.joins = program, rule, joins
        self.left = [list(data.digits) for data in datas]
        self.row = [0 for _ in datas]
        self.held = [dict.fromkeys(program.registers, 0) for _ in datas]
        self.pile = [[0, program.end, list(range(len(datas)))]]
        self.settle()

    def by_pile(self):
        return self.rule in ("told", "first")

    def alive(self):
        return [lane for lane, row in enumerate(self.row) if row != self.program.end]

    def registers(self, lane):
        return tuple(self.held[lane][word] for word in self.program.registers)

    def settle(self):
        for entry in self.pile:
            entry[2] = [lane for lane in entry[2] if lane in self.alive()]
        while len(self.pile) > 1 and (not self.pile[-1][2] or self.pile[-1][0] == self.pile[-1][1]):
            self.pile.pop()

    def turn(self):
        alive = self.alive()
        if not alive:
            return "over"
        if self.by_pile():
            row, _, lanes = self.pile[-1]
            return "stands" if self.kind(row) == "meet" and lanes != alive else (row, lanes)
        free = [lane for lane in alive if self.kind(self.row[lane]) != "meet"]
        if free:
            row = (min if self.rule == "least" else max)(self.row[lane] for lane in free)
            return row, [lane for lane in free if self.row[lane] == row]
        return (self.row[alive[0]], alive) if len({self.row[lane] for lane in alive}) == 1 else "stands"

    def kind(self, row):
        return self.program.rows[row][0]

    def step(self):
        turn = self.turn()
        if isinstance(turn, str):
            return (turn,)
        index, lanes = turn
        row = self.program.rows[index]
        ways = {lane: self.way(index, row, lane) for lane in lanes}
        self.act(row, [self.held[lane] for lane in lanes], [self.left[lane] for lane in lanes])
        for lane in lanes:
            self.row[lane] = ways[lane]
        self.pile_up(index, row, ways)
        self.settle()
        return ("done", index, tuple(lanes))

    def way(self, index, row, lane):
        if row[0] == "if" and self.held[lane][row[1]] == row[2]:
            return row[3]
        return {"go": row[-1], "end": self.program.end}.get(row[0], index + 1)

    def act(self, row, held, left):
        kind = row[0]
        if kind in ("any", "all"):
            told = int({"any": any, "all": all}[kind](one[row[1]] == row[2] for one in held))
        if kind == "same":
            told = int(len({one[row[1]] for one in held}) == 1)
        for one, values in zip(held, left):
            if kind in ("any", "all", "same"):
                one[row[-1]] = told
            if kind == "set":
                one[row[1]] = row[2]
            if kind == "copy":
                one[row[1]] = one[row[2]]
            if kind == "take":
                one[row[1]] = values.pop(0) if values else 0

    def pile_up(self, index, row, ways):
        entry = self.pile[-1]
        if len(set(ways.values())) == 1:
            entry[0] = next(iter(ways.values()))
        elif self.by_pile():
            arms = [[row[3], self.joins[index], [lane for lane in ways if ways[lane] != index + 1]],
                    [index + 1, self.joins[index], [lane for lane in ways if ways[lane] == index + 1]]]
            if entry[1] == self.joins[index]:
                self.pile.pop()
            else:
                entry[0] = self.joins[index]
            self.pile += arms

    def pair_state(self):
        """How lanes 0 and 1 of two stand, as point 12 tells it."""
        turn, join, top = self.turn(), self.program.end, self.pile[-1][2]
        word = turn
        if turn == "stands" and self.by_pile():
            word = "first stands" if top == [0] else "second stands"
        if not isinstance(turn, str):
            word = {(0, 1): "both", (0,): "first", (1,): "second"}[tuple(turn[1])]
        if self.by_pile() and len(self.alive()) == 2 and len(top) == 1:
            join = self.pile[-1][1]
        return (self.row[0], self.registers(0), self.row[1], self.registers(1), word, join)


class Watch:
    """Whether lanes break the promise of a group operation, as point 15 tells it for each two of them."""

    def __init__(self, many, row, anchor):
        self.row, self.anchor = row, anchor
        pairs = [(one, other) for one in range(many) for other in range(one)]
        self.counts = {pair: [0, 0] if anchor is None else None for pair in pairs}

    def see(self, row, lanes):
        """The kinds in which the step breaks the promise."""
        kinds = []
        for pair, counts in self.counts.items():
            does = [lane in lanes for lane in pair]
            if row == self.row:
                kinds += self.broken(does, counts)
                if counts is not None:
                    counts = [count + does[place] for place, count in enumerate(counts)]
            if row == self.anchor and any(does):
                counts = [0, 0] if all(does) else None
            self.counts[pair] = counts
        return kinds

    def broken(self, does, counts):
        if all(does):
            return ["stranger"] if counts is None or counts[0] != counts[1] else []
        if counts is None or not any(does):
            return []
        return ["missed"] if counts[does.index(True)] < counts[does.index(False)] else []


def some_program(chance, most, kinds=()):
    """Any program of up to so many rows; kinds: what rows may be besides plain ones."""
    end = chance.randint(2, most)
    registers = chance.choice([("x",), ("x",), ("x", "y")])
    size = chance.choice([2, 2, 3])
    rows = []
    for index in range(end):
        kind = "take" if index == 0 else chance.choice([*KINDS, *kinds])
        word, value = chance.choice(registers), chance.randrange(size)
        join = chance.choice([end, min(index + 1, end), chance.randint(0, end)])
        anchor = chance.choice([None, None, index, chance.randrange(end)])
        parts = {
            "set": (word, value), "take": (word,), "if": (word, value, chance.randint(0, end), join),
            "go": (chance.randint(0, end),), "group": ("see", anchor), "meet": ("all",), "end": (),
            "copy": (word, chance.choice(registers)), "same": (word, chance.choice(registers)),
            "any": (word, value, chance.choice(registers)), "all": (word, value, chance.choice(registers)),
        }
        rows.append((kind, *parts[kind]))
    return Program(rows, registers=registers, values=size)


def some_data(chance, size, most):
    """Any data of up to so many values."""
    return Data(*[chance.randrange(size) for _ in range(chance.randint(0, most))])


def chances(many):
    """So many sources of choices that are the same in each run."""
    return [random.Random(number) for number in range(many)]
