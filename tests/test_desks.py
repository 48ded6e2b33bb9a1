"""[3] and [31]: a desk."""

import unittest
from unittest import mock

from partedlanes import graphs
from partedlanes.desks import Desk
from partedlanes.errors import BadLine, BadProgram, TooMany
from partedlanes.lanes import Data
from partedlanes.machines import Machine
from partedlanes.programs import Program
from partedlanes.promises import broken_rows
from partedlanes.roads import unnested
from partedlanes.stands import standing_rows
from partedlanes.texts import format_data
from tests.helpers import STRANGE, Everything, error_of, refused
from tests.literal import chances, some_data, some_program
from tests.test_pairs import CROSSED, EXAMPLE, MEETINGS, RULES
from tests.test_papers import LOOP
from tests.test_roads import NO_PROGRAMS

STEERED = CROSSED.with_row(2, ("any", "x", 1, "x"))
NO_LINES = (*STRANGE, True, False, 0, 1, (), [], {}, "", " ", "lane", "rule", "lane ".rstrip(), "Lane 1", "LANE 1", "Step",
            "STEP", "GO", "Rule told", " step", "step ", "  step", "step\n", "\nstep", "step 1", "go 5", "go ", " go",
            "lanes ", "lanes 0", "lane  1", "lane 1 ", "lane 0 1", " lane 1", "lane\t1", "lane\n1", "rule told ", "rule  told",
            "rule told first", " rule told", "rule\ttold", "stands ", " stands", "stands told", "broken ", "broken 2", "break",
            "stand", "steps", "lan", "rules", "end", "lane" + " " * 2, "rule" + " " * 76, "over", "?", b"step", ["step"],
            ("lane", "1"), "step" + "\0", "ste\u0440")


def answers(desk, *lines):
    return [desk.answer(line) for line in lines]


def desk_with(program, *texts, rule="told"):
    desk = Desk(program)
    for text in texts:
        desk.answer(f"lane {text}")
    desk.answer(f"rule {rule}")
    return desk


class TestLines(unittest.TestCase):
    def test_wrong_programs(self):
        for program in (*NO_PROGRAMS, Data(1)):
            refused(self, BadProgram, program, lambda: Desk(program))

    def test_lines_that_are_none(self):
        for desk in (Desk(EXAMPLE), desk_with(EXAMPLE, "1", "-")):
            for line in NO_LINES:
                refused(self, BadLine, line, lambda: desk.answer(line))
        desk = desk_with(EXAMPLE, "1", "-")
        desk.answer("step")
        before = desk.answer("lanes")
        for line in NO_LINES:
            error_of(self, BadLine, lambda: desk.answer(line))
        self.assertEqual(desk.answer("lanes"), before)

    def test_eighty_signs_and_one_more(self):
        desk = Desk(EXAMPLE)
        for word in ("lane", "rule"):
            line = f"{word} ".ljust(80, "1")
            self.assertEqual(desk.answer(line), {"lane": "no data", "rule": "no rule"}[word])
            long = f"{word} ".ljust(81, "1")
            refused(self, BadLine, long, lambda: desk.answer(long))
        for many in (81, 10 ** 6):
            line = "step".ljust(many)
            refused(self, BadLine, line, lambda: desk.answer(line))
        self.assertEqual(desk.answer("lane " + "1" * 60), "lane 0")
        self.assertEqual(desk.answer("lane " + "1" * 61), "no data")

    def test_names_of_arguments(self):
        self.assertEqual(Desk(program=EXAMPLE).answer(line="step"), "no lanes")


class TestLanes(unittest.TestCase):
    def test_no_lanes(self):
        desk = Desk(EXAMPLE)
        self.assertEqual(answers(desk, "step", "go", "lanes"), ["no lanes"] * 3)
        self.assertEqual(answers(desk, "rule first", "step", "lane 3", "go", "rule x", "lanes"),
                         ["ok", "no lanes", "no data", "no lanes", "no rule", "no lanes"])

    def test_numbers_of_lanes(self):
        desk = Desk(EXAMPLE)
        self.assertEqual(answers(desk, "lane 1", "lane -", "lane 01", "lane 1"), ["lane 0", "lane 1", "lane 2", "lane 3"])

    def test_no_data(self):
        desk = Desk(EXAMPLE)
        for text in ("", "0", "10", "2", "12", "--", "a", "1-", "told", "\t", "1\n", "\u0661", "+1", "1,1"):
            self.assertEqual(desk.answer(f"lane {text}"), "no data")
        self.assertEqual(desk.answer("step"), "no lanes")
        three = Desk(Program(EXAMPLE.rows, values=3))
        self.assertEqual(answers(three, "lane 2", "lane 3"), ["lane 0", "no data"])

    def test_the_fortieth_and_the_forty_first_lane(self):
        desk = Desk(EXAMPLE)
        for number in range(40):
            self.assertEqual(desk.answer("lane 1"), f"lane {number}")
        desk.answer("step")
        before = desk.answer("lanes")
        self.assertEqual(answers(desk, "lane 1", "lane -", "lane x"), ["no data"] * 3)
        self.assertEqual(desk.answer("lanes"), before)
        self.assertEqual(before.count("\n"), 40)

    def test_a_lane_more_begins_anew(self):
        desk = desk_with(EXAMPLE, "1", "-")
        self.assertEqual(answers(desk, "step", "step"), ["row 0: 0 1", "row 1: 0 1"])
        self.assertEqual(answers(desk, "lane 1", "step"), ["lane 2", "row 0: 0 1 2"])

    def test_a_rule_begins_anew(self):
        desk = desk_with(EXAMPLE, "1", "-")
        for text in ("told", "least", "least", "greatest", "first"):
            self.assertEqual(answers(desk, "step", "step", f"rule {text}", "step"),
                             ["row 0: 0 1", "row 1: 0 1", "ok", "row 0: 0 1"])
            desk.answer(f"rule {text}")

    def test_one_lane_alone_begins_anew_too(self):
        desk = desk_with(EXAMPLE, "1")
        self.assertEqual(answers(desk, "step", "rule told", "step", "step", "rule least", "step"),
                         ["row 0: 0", "ok", "row 0: 0", "row 1: 0", "ok", "row 0: 0"])

    def test_what_is_refused_does_not_begin_anew(self):
        desk = desk_with(EXAMPLE, "1", "-")
        desk.answer("step")
        for text in ("", "Told", "most", "tol", "told\n", "told\t", "0", "-"):
            self.assertEqual(desk.answer(f"rule {text}"), "no rule")
        self.assertEqual(answers(desk, "lane 2", "lane ", "step"), ["no data", "no data", "row 1: 0 1"])

    def test_each_rule(self):
        told = {}
        for rule in RULES:
            desk = desk_with(EXAMPLE, "1", "-", rule=rule)
            told[rule] = answers(desk, *["step"] * 8)
        self.assertEqual(told["told"], ["row 0: 0 1", "row 1: 0 1", "row 2: 1", "row 3: 1", "row 4: 0", "row 5: 0 1",
                                        "over", "over"])
        self.assertEqual(told["first"], told["told"])
        self.assertEqual(told["greatest"][2:], ["row 4: 0", "row 2: 1", "row 3: 1", "row 5: 0 1", "over", "over"])

    def test_step_when_it_stands(self):
        desk = desk_with(MEETINGS, "1", "-")
        self.assertEqual(answers(desk, *["step"] * 4, "go"),
                         ["row 0: 0 1", "row 1: 0 1", "stands", "stands", "0 rows, stands"])

    def test_go(self):
        desk = desk_with(EXAMPLE, "1", "-")
        self.assertEqual(answers(desk, "go", "go", "step"), ["6 rows, over", "0 rows, over", "over"])
        self.assertEqual(desk_with(MEETINGS, "1", "-").answer("go"), "2 rows, stands")
        self.assertEqual(desk_with(Program([("end",)]), "-").answer("go"), "1 rows, over")

    def test_go_up_to_just_a_thousand_rows(self):
        desk = desk_with(LOOP, "-")
        self.assertEqual(answers(desk, "go", "go", "lanes"), ["1000 rows, goes", "1000 rows, goes", "0 - 0 0\n"])
        # The lane goes round 55 times, each time by 18 rows, and then by so many more and two.
        for more, told in ((7, "999 rows, over"), (8, "1000 rows, over"), (9, "1000 rows, goes")):
            program = Program([*[("set", "x", 0)] * more, ("take", "x"), ("if", "x", 1, 18, 18),
                               *[("set", "x", 0)] * (15 - more), ("go", 0)])
            self.assertEqual(desk_with(program, "0" * 55 + "1").answer("go"), told)

    def test_lanes(self):
        program = Program([("take", "y"), ("if", "y", 2, 3, 3), ("take", "x"), ("meet", "all")], registers=("x", "y"),
                          values=3)
        desk = desk_with(program, "2", "-", "101")
        self.assertEqual(desk.answer("lanes"), "0 2 0 00\n1 - 0 00\n2 101 0 00\n")
        desk.answer("step")
        self.assertEqual(desk.answer("lanes"), "0 2 1 02\n1 - 1 00\n2 101 1 01\n")
        self.assertEqual(answers(desk, "step", "step", "lanes"),
                         ["row 1: 0 1 2", "row 2: 1 2", "0 2 3 02\n1 - 3 00\n2 101 3 01\n"])
        desk.answer("go")
        self.assertEqual(desk.answer("lanes"), "0 2 4 02\n1 - 4 00\n2 101 4 01\n")

    def test_beside_machines(self):
        for chance in chances(80):
            program = some_program(chance, 12, ("any", "same"))
            datas = [some_data(chance, program.size, 6) for _ in range(chance.randint(1, 5))]
            rule = chance.choice(RULES)
            desk = desk_with(program, *[format_data(data) for data in datas], rule=rule)
            machine = Machine(program, datas, rule=rule)
            for _ in range(chance.randint(1, 30)):
                told = machine.step()
                if told[0] == "done":
                    told = [f"row {told[1]}: {' '.join(map(str, told[2]))}"]
                self.assertEqual(desk.answer("step"), told[0])
                lines = [f"{lane} {format_data(data)} {machine.row_of(lane)} " +
                         "".join(map(str, machine.registers_of(lane))) for lane, data in enumerate(datas)]
                self.assertEqual(desk.answer("lanes"), "".join(f"{line}\n" for line in lines))
            done = [step for step in machine.go(1000) if step[0] == "done"]
            self.assertEqual(desk.answer("go"), f"{len(done)} rows, {machine.state()}")

    def test_desks_go_on_by_themselves(self):
        one, other = desk_with(EXAMPLE, "1"), desk_with(EXAMPLE, "1")
        one.answer("step")
        one.answer("lane -")
        self.assertEqual([one.answer("step"), other.answer("step")], ["row 0: 0 1", "row 0: 0"])


class TestRows(unittest.TestCase):
    def test_rows_that_are_told(self):
        for rule, rows in (("told", "2"), ("first", "2"), ("least", "2 4"), ("greatest", "2 4")):
            self.assertEqual(desk_with(MEETINGS, rule=rule).answer("stands"), rows)
            self.assertEqual(desk_with(MEETINGS, rule=rule).answer("broken"), "none")
            self.assertEqual(desk_with(EXAMPLE, "1", rule=rule).answer("stands"), "none")
            self.assertEqual(desk_with(LOOP, rule=rule).answer("broken"), "none" if rule == "first" else "2")

    def test_any_programs(self):
        found = set()
        for chance in chances(150):
            program = some_program(chance, 9, chance.choice([(), (), ("any", "same")]))
            for rule in RULES:
                desk = desk_with(program, *["1"] * chance.randint(0, 2), rule=rule)
                for line, told in (("stands", standing_rows), ("broken", broken_rows)):
                    if not program.is_plain():
                        expected = f"steered {program.steering()[0]}"
                    elif rule in ("told", "first") and unnested(program, rule):
                        expected = "not nested {} {}".format(*unnested(program, rule)[0])
                    else:
                        expected = " ".join(map(str, told(program, rule))) or "none"
                    found.add((line, expected.split(" ")[0]))
                    self.assertEqual(desk.answer(line), expected)
        self.assertGreaterEqual({kind for _, kind in found}, {"steered", "not", "none"})

    def test_rows_that_steer_and_joins_that_do_not_nest(self):
        for line in ("stands", "broken"):
            for rule in RULES:
                self.assertEqual(desk_with(STEERED, rule=rule).answer(line), "steered 2")
            self.assertEqual(desk_with(CROSSED, rule="told").answer(line), "not nested 0 1")
            for rule in ("first", "least", "greatest"):
                self.assertEqual(desk_with(CROSSED, rule=rule).answer(line), "none")

    def test_lanes_and_steps_do_not_matter_and_nothing_changes(self):
        desk = desk_with(MEETINGS, "1", "-")
        desk.answer("step")
        self.assertEqual(answers(desk, "stands", "broken", "step"), ["2", "none", "row 1: 0 1"])

    def test_too_many_pair_states_change_nothing(self):
        desk = desk_with(EXAMPLE, "1")
        desk.answer("step")
        with mock.patch.object(graphs, "MOST_STATES", 3):
            for line in ("stands", "broken"):
                error_of(self, TooMany, lambda: desk.answer(line))
        self.assertEqual(answers(desk, "stands", "step"), ["none", "row 1: 0"])

    def test_values_that_are_equal_to_everything(self):
        refused(self, BadLine, everything := Everything(), lambda: Desk(EXAMPLE).answer(everything))


if __name__ == "__main__":
    unittest.main()
