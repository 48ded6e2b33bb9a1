"""Desks: lines about the lanes of a program, and their answers."""

from partedlanes.errors import BadLine, BadText, NotNested, NotPlain
from partedlanes.guards import MOST_STEPS, RULES, ask_program
from partedlanes.loads import MOST_LANES, is_load
from partedlanes.machines import Machine
from partedlanes.promises import broken_rows
from partedlanes.stands import standing_rows
from partedlanes.texts import format_data, parse_data

_MOST_SIGNS = 80


class Desk:
    """A program with lanes and a rule, which lines ask and change; at the beginning there are no lanes."""

    def __init__(self, program):
        ask_program(program)
        self.program = program
        self.rule = "told"
        self.datas = []
        self.machine = None

    def answer(self, line):
        """Does what a line says, and answers it."""
        if not isinstance(line, str) or len(line) > _MOST_SIGNS:
            raise BadLine(line)
        word, blank, text = line.partition(" ")
        if blank == "" and word in ("step", "go", "lanes"):
            return self._told_of_machine(word) if len(self.datas) > 0 else "no lanes"
        if blank == "" and word in ("stands", "broken"):
            return self._told_of_program(word)
        if blank == "" or word not in ("lane", "rule") or " " in text:
            raise BadLine(line)
        return self._add_lane(text) if word == "lane" else self._set_rule(text)

    def _add_lane(self, text):
        try:
            data = parse_data(text)
        except BadText:
            return "no data"
        if not is_load(self.program, data) or len(self.datas) == MOST_LANES:
            return "no data"
        self.datas.append(data)
        self._begin()
        return f"lane {len(self.datas) - 1}"

    def _set_rule(self, text):
        if text not in RULES:
            return "no rule"
        self.rule = text
        if len(self.datas) > 0:
            self._begin()
        return "ok"

    def _begin(self):
        self.machine = Machine(self.program, self.datas, rule=self.rule)

    def _told_of_machine(self, word):
        if word == "step":
            return _told_step(self.machine.step())
        if word == "go":
            done = [told for told in self.machine.go(MOST_STEPS) if told[0] == "done"]
            return f"{len(done)} rows, {self.machine.state()}"
        return "".join([self._lane_line(lane) for lane in range(len(self.datas))])

    def _lane_line(self, lane):
        values = "".join([str(value) for value in self.machine.registers_of(lane)])
        return f"{lane} {format_data(self.datas[lane])} {self.machine.row_of(lane)} {values}\n"

    def _told_of_program(self, word):
        try:
            if word == "stands":
                rows = standing_rows(self.program, self.rule)
            else:
                rows = broken_rows(self.program, self.rule)
        except NotPlain as steered:
            return f"steered {steered.value}"
        except NotNested as crossed:
            return f"not nested {_numbers(crossed.value)}"
        return _numbers(rows) if len(rows) > 0 else "none"


def _told_step(told):
    return f"row {told[1]}: {_numbers(told[2])}" if told[0] == "done" else told[0]


def _numbers(numbers):
    return " ".join([str(number) for number in numbers])
