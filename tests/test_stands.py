"""[2], [3] and [14]: meetings that stand."""

import itertools
import unittest
from unittest import mock

from partedlanes import graphs, trails
from partedlanes.errors import BadProgram, BadRule, NotNested, NotPlain, TooLarge, TooMany
from partedlanes.lanes import Data
from partedlanes.machines import Machine
from partedlanes.pairs import Pairs
from partedlanes.programs import Program
from partedlanes.roads import unnested
from partedlanes.stands import standing_rows, stands
from tests.helpers import STRANGE, error_of, refused
from tests.literal import chances, some_data
from tests.literal_scenes import forward_program
from tests.test_pairs import CROSSED, EXAMPLE, MEETINGS, RULES, plain_programs
from tests.test_roads import NO_PROGRAMS

NO_RULES = (*STRANGE, "", "Told", "told ", "most", ("told",), ["least"], b"told", 0, True)
STUCK = Program([("take", "x"), ("if", "x", 1, 3, 4), ("meet", "one"), ("meet", "two"), ("end",)])

# Lanes that take 1 come to the meeting behind a row more; by a pile only those come to it who go to the next row.
LATE = Program([("take", "x"), ("if", "x", 1, 4, 5), ("take", "y"), ("meet", "all"), ("go", 5), ("end",)],
               registers=("x", "y"))


def some_programs(many):
    """Some plain programs with meetings and a rule that Pairs can be asked for."""
    yield from plain_programs(many, 9)
    for chance in chances(many):
        program = forward_program(chance, 9, chance.choice([0, 0.2]))
        rows = [("meet", "all") if row[0] in ("any", "all", "same") else row for row in program.rows]
        program = Program(rows, registers=program.registers, values=program.size)
        for rule in RULES:
            if rule not in ("told", "first") or not unnested(program, rule):
                yield chance, program, rule


def rows_that_stand(machine):
    """The rows that point 14 tells of a machine that stands."""
    if machine.rule in ("told", "first"):
        return {machine.pile()[-1][0]}
    return {machine.row_of(lane) for lane in machine.alive()}


class TestExceptions(unittest.TestCase):
    def test_in_order(self):
        for function in (stands, standing_rows):
            for program in NO_PROGRAMS:
                refused(self, BadProgram, program, lambda: function(program, None))
            for rule in NO_RULES:
                refused(self, BadRule, rule, lambda: function(EXAMPLE, rule))
            steered = CROSSED.with_row(2, ("any", "x", 1, "x"))
            error_of(self, BadRule, lambda: function(steered, "rule"))
            for rule in RULES:
                self.assertEqual(error_of(self, NotPlain, lambda: function(steered, rule)), 2)
            self.assertEqual(error_of(self, NotNested, lambda: function(CROSSED, "told")), (0, 1))
            with mock.patch.object(graphs, "MOST_STATES", len(Pairs(EXAMPLE, "told")) - 1):
                error_of(self, TooMany, lambda: function(EXAMPLE, "told"))

    def test_joins_that_do_not_nest_are_asked_for_by_told_alone(self):
        for rule in ("first", "least", "greatest"):
            self.assertIsNone(stands(CROSSED, rule))
            self.assertEqual(standing_rows(CROSSED, rule), [])

    def test_names_of_arguments(self):
        self.assertEqual(stands(program=STUCK, rule="told")[2], 2)
        self.assertEqual(standing_rows(program=STUCK, rule="told"), [2])


class TestStands(unittest.TestCase):
    def test_programs_that_never_stand(self):
        for rule in RULES:
            for program in (EXAMPLE, Program([("meet", "a")]), Program([("take", "x"), ("go", 0)]),
                            Program([("meet", "a"), ("take", "x"), ("go", 0)])):
                self.assertIsNone(stands(program, rule))
                self.assertEqual(standing_rows(program, rule), [])

    def test_meetings_that_are_unlike(self):
        for rule, rows in (("told", [2]), ("first", [2]), ("least", [2, 3]), ("greatest", [2, 3])):
            one, other, steps = stands(STUCK, rule)
            self.assertEqual([sorted([one.digits, other.digits]), steps], [[(), (1,)], 2])
            self.assertEqual(standing_rows(STUCK, rule), rows)

    def test_meetings_in_an_arm(self):
        for rule in ("told", "first"):
            self.assertEqual(stands(LATE, rule)[2], 3)
            self.assertEqual(standing_rows(LATE, rule), [3])
        # By rows the other lane goes on and ends, and is waited for no more.
        for rule in ("least", "greatest"):
            self.assertIsNone(stands(LATE, rule))

    def test_the_meetings_of_both_arms(self):
        told = {rule: standing_rows(MEETINGS, rule) for rule in RULES}
        self.assertEqual(told, {"told": [2], "first": [2], "least": [2, 4], "greatest": [2, 4]})
        rows = list(MEETINGS.rows)
        rows[2] = ("group", "one", None)
        told = {rule: standing_rows(Program(rows), rule) for rule in RULES}
        self.assertEqual(told, {"told": [4], "first": [4], "least": [], "greatest": []})

    def test_the_second_lane_on_top(self):
        for _, program, rule in some_programs(20):
            for state in Pairs(program, rule).states():
                if state[4] == "second stands":
                    self.assertIn(state[2], standing_rows(program, rule))
                if state[4] == "first stands":
                    self.assertIn(state[0], standing_rows(program, rule))

    def test_what_is_told_is_done_by_a_machine_of_two(self):
        stood = 0
        for _, program, rule in some_programs(80):
            told = stands(program, rule)
            self.assertIs(told is None, standing_rows(program, rule) == [])
            if told is not None:
                stood += 1
                one, other, steps = told
                machine = Machine(program, [one, other], rule=rule)
                done = machine.go(steps)
                self.assertTrue(all(step[0] == "done" for step in done) and len(done) == steps)
                self.assertEqual(machine.state(), "stands", (program.rows, rule))
        self.assertGreater(stood, 20)

    def test_none_of_two_lanes_stands_behind_fewer(self):
        for _, program, rule in some_programs(30):
            told = stands(program, rule)
            fewest = 10 if told is None else told[2]
            many = 3 if program.size == 2 else 2
            digits = [Data(*values) for values in itertools.product(range(program.size), repeat=many)]
            for one, other in itertools.combinations_with_replacement(digits, 2):
                machine = Machine(program, [one, other], rule=rule)
                seen = [machine.state() for _ in range(fewest) if machine.step()]
                # The first of these is behind one step.
                self.assertNotIn("stands", seen[:fewest - 1], (program.rows, rule))

    def test_machines_of_many_lanes(self):
        stood = set()
        for chance, program, rule in some_programs(120):
            rows = standing_rows(program, rule)
            for _ in range(3):
                datas = [some_data(chance, program.size, 6) for _ in range(chance.randint(1, 7))]
                machine = Machine(program, datas, rule=rule)
                machine.go(100)
                if machine.state() == "stands":
                    stood.add((rule, len(rows_that_stand(machine))))
                    self.assertLessEqual(rows_that_stand(machine), set(rows), (program.rows, rule))
        self.assertEqual({rule for rule, _ in stood}, set(RULES))

    def test_three_meetings_stand(self):
        rows = [("take", "x"), ("if", "x", 1, 5, 6), ("if", "x", 2, 4, 6), ("meet", "a"), ("meet", "b"), ("meet", "c")]
        program = Program(rows, values=3)
        for rule in ("least", "greatest"):
            self.assertEqual(standing_rows(program, rule), [3, 4, 5])
            machine = Machine(program, [Data(), Data(1), Data(2)], rule=rule)
            machine.go(20)
            self.assertEqual([machine.state(), rows_that_stand(machine)], ["stands", {3, 4, 5}])
        for rule in ("told", "first"):
            self.assertEqual(standing_rows(program, rule), [3, 4])

    def test_all_meetings_that_are_told_stand(self):
        for _, program, rule in some_programs(60):
            pairs = Pairs(program, rule)
            found = set()
            for state in pairs.states():
                if "stands" in state[4]:
                    one, other, steps = pairs.shown(state)
                    machine = Machine(program, [one, other], rule=rule)
                    machine.go(steps)
                    self.assertEqual(machine.state(), "stands")
                    found |= rows_that_stand(machine)
            self.assertEqual(standing_rows(program, rule), sorted(found))

    def test_results_are_plain(self):
        told = stands(STUCK, "told")
        self.assertEqual([told.__class__, len(told), told[0].__class__, told[2].__class__], [tuple, 3, Data, int])
        rows = standing_rows(STUCK, "told")
        rows.append(9)
        self.assertEqual(standing_rows(STUCK, "told"), [2])


class TestTooLarge(unittest.TestCase):
    def test_just_so_many_values_and_one_less(self):
        # Only the last of the takes can part lanes ahead of the meeting.
        program = Program([*[("take", "x")] * 9, ("if", "x", 1, 11, 12), ("meet", "a"), ("go", 12), ("end",)])
        self.assertEqual(trails.MOST_VALUES, 60)
        for rule in ("told", "first"):
            one, other, steps = stands(program, rule)
            self.assertEqual([sorted([len(one), len(other)]), steps], [[0, 9], 10])
            with mock.patch.object(trails, "MOST_VALUES", 9):
                self.assertEqual(stands(program, rule), (one, other, steps))
            with mock.patch.object(trails, "MOST_VALUES", 8):
                self.assertEqual(error_of(self, TooLarge, lambda: stands(program, rule)), 8)
                self.assertEqual(standing_rows(program, rule), [10])


if __name__ == "__main__":
    unittest.main()
