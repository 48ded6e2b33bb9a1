"""[2], [3], [9], [10] and [11]: machines."""

import time
import unittest

from partedlanes.errors import BadData, BadKind, BadMachine, BadNumber, BadProgram, BadRule, NoLane
from partedlanes.lanes import Alone, Data
from partedlanes.machines import Machine, tried
from partedlanes.programs import Program
from partedlanes.roads import joins_of
from tests.helpers import NO_INTEGERS, STRANGE, Everything, error_of, refused
from tests.literal import Lanes, chances, some_data, some_program

RULES = ("told", "first", "least", "greatest")
EXAMPLE = Program([("take", "x"), ("if", "x", 1, 4, 5), ("group", "low", None), ("go", 5), ("group", "high", None),
                   ("meet", "all")])
LOOP = Program([("take", "x"), ("if", "x", 1, 3, 3), ("go", 0), ("end",)])
STUCK = Program([("take", "x"), ("if", "x", 1, 3, 4), ("meet", "one"), ("meet", "two"), ("end",)])


def example(rule="told"):
    """The machine of the document."""
    return Machine(EXAMPLE, [Data(1), Data(0), Data(1)], rule=rule)


class TestArguments(unittest.TestCase):
    def test_wrong_programs(self):
        for program in (*STRANGE, [("end",)], (("end",),), "program", 1, Data(1)):
            refused(self, BadProgram, program, lambda: Machine(program, [Data()]))

    def test_wrong_data(self):
        two = [Data(0, 2)]
        wrong = ([], (), two, (Data(), Data(2)), [Data()] * 41, (Data(),) * 41, [None], [(1,)], [[1]], Data(1), "1",
                 1, True, {0: Data()}, [Everything()], [EXAMPLE], *STRANGE)
        for datas in wrong:
            refused(self, BadData, datas, lambda: Machine(EXAMPLE, datas))

    def test_wrong_rules(self):
        for rule in (*STRANGE, "", "Told", "least ", "most", ("told",), ["told"], b"told", 0, True):
            refused(self, BadRule, rule, lambda: Machine(EXAMPLE, [Data()], rule=rule))

    def test_order_of_exceptions(self):
        error_of(self, BadProgram, lambda: Machine(None, None, rule=None))
        error_of(self, BadData, lambda: Machine(EXAMPLE, None, rule=None))
        error_of(self, BadRule, lambda: Machine(EXAMPLE, [Data()], rule=None))

    def test_numbers_of_lanes(self):
        for many in (1, 2, 39, 40):
            for kind in (list, tuple):
                for rule in RULES:
                    machine = Machine(EXAMPLE, kind([Data()] * many), rule=rule)
                    self.assertEqual([len(machine), machine.alive()], [many, tuple(range(many))])

    def test_names_of_arguments(self):
        machine = Machine(program=EXAMPLE, datas=[Data(1)], rule="least")
        self.assertRaises(TypeError, lambda: Machine(EXAMPLE, [Data(1)], "least"))
        self.assertEqual([machine.row_of(lane=0), machine.registers_of(lane=0), machine.go(most=0)], [0, (0,), []])
        self.assertEqual(tried(machine=machine, most=1, keep=False), [("done", 0, (0,))])
        self.assertRaises(TypeError, lambda: tried(machine, 1, False))
        self.assertEqual(Machine(EXAMPLE, [Data(1)]), Machine(EXAMPLE, [Data(1)], rule="told"))

    def test_data_that_were_handed_in_may_change(self):
        datas = [Data(1), Data(0)]
        machine = Machine(EXAMPLE, datas)
        datas[0] = None
        datas.clear()
        machine.go(3)
        self.assertEqual([len(machine), machine.registers_of(0)], [2, (1,)])

    def test_values_of_the_program(self):
        wide = Program([("take", "x")], values=3)
        machine = Machine(wide, [Data(2)])
        machine.step()
        self.assertEqual(machine.registers_of(0), (2,))


class TestSteps(unittest.TestCase):
    def test_example_of_the_document(self):
        machine = example()
        told = machine.go(3)
        self.assertEqual(
            [told[-1], machine.pile(), machine.go(9)[-1], machine.events()],
            [("done", 2, (1,)), [(5, 6, (0, 1, 2)), (4, 5, (0, 2)), (3, 5, (1,))], ("over",),
             [(2, (1,)), (4, (0, 2)), (5, (0, 1, 2))]],
        )

    def test_step_by_step(self):
        machine = example()
        steps = [machine.step() for _ in range(8)]
        self.assertEqual(steps, [("done", 0, (0, 1, 2)), ("done", 1, (0, 1, 2)), ("done", 2, (1,)), ("done", 3, (1,)),
                                 ("done", 4, (0, 2)), ("done", 5, (0, 1, 2)), ("over",), ("over",)])

    def test_beginning(self):
        for rule in RULES:
            machine = example(rule)
            self.assertEqual([machine.row_of(lane) for lane in range(3)], [0, 0, 0])
            self.assertEqual([machine.registers_of(lane) for lane in range(3)], [(0,)] * 3)
            self.assertEqual([machine.alive(), machine.state(), machine.events()], [(0, 1, 2), "goes", []])

    def test_lanes(self):
        machine = example()
        machine.go(3)
        self.assertEqual([machine.row_of(lane) for lane in range(3)], [4, 3, 4])
        self.assertEqual([machine.registers_of(lane) for lane in range(3)], [(1,), (0,), (1,)])
        for lane in (-1, 3, 40, *NO_INTEGERS):
            refused(self, NoLane, lane, lambda: machine.row_of(lane))
            refused(self, NoLane, lane, lambda: machine.registers_of(lane))
        machine.go(9)
        self.assertEqual([[machine.row_of(lane) for lane in range(3)], machine.alive()], [[6, 6, 6], ()])

    def test_go(self):
        self.assertEqual(example().go(0), [])
        machine = example()
        self.assertEqual(len(machine.go(6)), 6)
        self.assertEqual([machine.go(0), machine.go(1), machine.go(5)], [[], [("over",)], [("over",)]])
        self.assertEqual(len(Machine(LOOP, [Data()]).go(1000)), 1000)
        for most in (-1, 1001, *NO_INTEGERS):
            refused(self, BadNumber, most, lambda: machine.go(most))

    def test_a_machine_that_is_over_does_nothing_more(self):
        for rule in RULES:
            machine = example(rule)
            told = machine.go(100)
            self.assertEqual([told[-1], told.count(("over",)), machine.state()], [("over",), 1, "over"])
            before = machine.copy()
            self.assertEqual([machine.step(), machine.go(3), machine == before], [("over",), [("over",)], True])
            self.assertEqual(machine.events(), before.events())

    def test_a_machine_that_stands_does_nothing_more(self):
        for rule in RULES:
            machine = Machine(STUCK, [Data(0), Data(1)], rule=rule)
            self.assertEqual(machine.go(9), [("done", 0, (0, 1)), ("done", 1, (0, 1)), ("stands",)])
            before = machine.copy()
            self.assertEqual([machine.state(), machine.step(), machine.go(2)], ["stands", ("stands",), [("stands",)]])
            self.assertEqual([machine == before, machine.pile() == before.pile()], [True, True])
            self.assertEqual([machine.alive(), machine.events()], [(0, 1), []])

    def test_events(self):
        rows = [("take", "x"), ("any", "x", 1, "y"), ("all", "x", 1, "y"), ("same", "x", "y"), ("meet", "a"),
                ("group", "b", 0), ("set", "x", 0), ("copy", "x", "y"), ("if", "x", 1, 9, 9), ("go", 10), ("end",)]
        machine = Machine(Program(rows, registers=("x", "y")), [Data(1), Data()])
        machine.go(100)
        self.assertEqual([row for row, _ in machine.events()], [1, 2, 3, 4, 5])
        told = machine.events()
        told.clear()
        self.assertEqual(len(machine.events()), 5)

    def test_lists_are_new(self):
        machine = example()
        machine.go(3)
        for teller in (machine.pile, machine.events):
            before = teller()
            teller().append(None)
            self.assertEqual(teller(), before)
            self.assertIsInstance(before, list)

    def test_one_lane_does_what_it_does_alone(self):
        for chance in chances(150):
            program = some_program(chance, 10, ("any", "all", "same"))
            data = some_data(chance, program.size, 8)
            alone = Alone(program, data).go(60)
            for rule in RULES:
                told = Machine(program, [data], rule=rule).go(60)
                self.assertEqual([step[1] for step in told if step[0] == "done"], alone)

    def test_rows_that_steer(self):
        cases = [
            (("any", "x", 1, "y"), [1, 0, 0], 1), (("any", "x", 1, "y"), [0, 2, 0], 0), (("any", "x", 2, "y"), [2], 1),
            (("all", "x", 1, "y"), [1, 1, 1], 1), (("all", "x", 1, "y"), [1, 1, 0], 0), (("all", "x", 0, "y"), [2], 0),
            (("same", "x", "y"), [2, 2, 2], 1), (("same", "x", "y"), [2, 2, 1], 0), (("same", "x", "y"), [0], 1),
        ]
        for row, values, told in cases:
            for rule in RULES:
                program = Program([("take", "x"), row], registers=("x", "y"), values=3)
                machine = Machine(program, [Data(value) for value in values], rule=rule)
                machine.go(2)
                for lane, value in enumerate(values):
                    self.assertEqual(machine.registers_of(lane), (value, told), (row, values))

    def test_rows_that_steer_into_what_they_see(self):
        program = Program([("take", "x"), ("same", "x", "x"), ("any", "x", 0, "x")], values=3)
        machine = Machine(program, [Data(2), Data(1)])
        machine.go(2)
        self.assertEqual([machine.registers_of(0), machine.registers_of(1)], [(0,), (0,)])
        machine.go(1)
        self.assertEqual([machine.registers_of(0), machine.registers_of(1)], [(1,), (1,)])

    def test_rows_that_steer_see_only_those_that_do_them_together(self):
        rows = [("take", "x"), ("if", "x", 1, 3, 4), ("go", 4), ("all", "x", 1, "y"), ("take", "x")]
        machine = Machine(Program(rows, registers=("x", "y")), [Data(1), Data(0), Data(1)])
        machine.go(4)
        self.assertEqual([machine.registers_of(lane) for lane in range(3)], [(1, 1), (0, 0), (1, 1)])

    def test_against_the_words_of_the_document(self):
        for chance in chances(400):
            program = some_program(chance, 12, ("any", "all", "same"))
            datas = [some_data(chance, program.size, 8) for _ in range(chance.randint(1, 6))]
            for rule in RULES:
                machine = Machine(program, datas, rule=rule)
                joins = joins_of(program, rule) if rule in ("told", "first") else {}
                lanes = Lanes(program, datas, rule, joins)
                for _ in range(40):
                    self.compare(machine, lanes)
                    told = machine.step()
                    self.assertEqual(told, lanes.step(), (program.rows, datas, rule))
                    if told[0] != "done":
                        break

    def compare(self, machine, lanes):
        where = [(machine.row_of(lane), machine.registers_of(lane)) for lane in range(len(machine))]
        self.assertEqual(where, [(row, lanes.registers(lane)) for lane, row in enumerate(lanes.row)])
        self.assertEqual(machine.alive(), tuple(lanes.alive()))
        self.assertEqual(machine.state(), lanes.turn() if isinstance(lanes.turn(), str) else "goes")
        if lanes.by_pile():
            self.assertEqual(machine.pile(), [(row, join, tuple(held)) for row, join, held in lanes.pile])
        else:
            rows = sorted({lanes.row[lane] for lane in lanes.alive()})
            at = [(row, tuple(lane for lane in lanes.alive() if lanes.row[lane] == row)) for row in rows]
            self.assertEqual(machine.pile(), at)


class TestCopies(unittest.TestCase):
    def test_copies_go_on_by_themselves(self):
        for rule in RULES:
            machine = example(rule)
            machine.go(3)
            other = machine.copy()
            self.assertEqual(machine, other)
            other.go(1)
            self.assertNotEqual(machine, other)
            self.assertEqual(len(machine.events()), 1)
            machine.go(9)
            other.go(9)
            self.assertEqual([machine == other, machine.events() == other.events()], [True, True])

    def test_copies_that_go_on_in_turn_keep_their_own_events(self):
        program = Program([("take", "x"), ("if", "x", 1, 3, 4), ("group", "a", None), ("group", "b", None), ("go", 0)])
        machine = Machine(program, [Data(0, 1, 0, 1)])
        machine.go(4)
        others = [machine.copy() for _ in range(3)]
        expected = Machine(program, [Data(0, 1, 0, 1)])
        expected.go(40)
        for many in range(1, 13):
            for one in [machine, *others]:
                one.go(3)
        for one in [machine, *others]:
            self.assertEqual([one == expected, one.events()], [True, expected.events()])

    def test_equality(self):
        self.assertEqual(example(), example())
        self.assertIs(example() != example(), False)
        self.assertNotEqual(example("least"), example("greatest"))
        self.assertNotEqual(example("told"), example("first"))
        self.assertNotEqual(example(), Machine(EXAMPLE, [Data(1), Data(0)]))
        self.assertNotEqual(example(), Machine(EXAMPLE, [Data(1), Data(0), Data(1, 1)]))
        self.assertNotEqual(example(), Machine(EXAMPLE.with_row(4, ("go", 5)), [Data(1), Data(0), Data(1)]))
        self.assertEqual(example(), Machine(EXAMPLE, (Data(1, 0), Data(), Data(1))))
        for other in (None, 1, EXAMPLE, Data(1), [], Everything()):
            self.assertIs(example() == other, False)
            self.assertIs(example() != other, True)

    def test_equality_hangs_on_all_that_was_done(self):
        machine, other = (Machine(Program([("go", 0)]), [Data()]) for _ in range(2))
        machine.go(2)
        self.assertEqual([machine.row_of(0), machine.pile()], [other.row_of(0), other.pile()])
        self.assertNotEqual(machine, other)
        other.go(2)
        self.assertEqual(machine, other)


class TestTrials(unittest.TestCase):
    def test_tried_and_kept(self):
        for rule in RULES:
            machine, other = example(rule), example(rule)
            self.assertEqual(tried(machine, 3), other.go(3))
            self.assertEqual([machine == other, machine.pile()], [True, other.pile()])
            self.assertEqual(tried(machine, 90, keep=True), other.go(90))
            self.assertEqual([machine == other, machine.events()], [True, other.events()])

    def test_tried_and_not_kept(self):
        for rule in RULES:
            machine, other = example(rule), example(rule)
            machine.go(2)
            other.go(2)
            before = machine.copy()
            self.assertEqual(tried(machine, 90, keep=False), other.go(90))
            self.assertEqual([machine == before, machine.events(), machine.pile()], [True, [], before.pile()])

    def test_exceptions_of_tried_in_order(self):
        machine = example()
        for value in (*STRANGE, EXAMPLE, "machine", 1, True, [machine]):
            refused(self, BadMachine, value, lambda: tried(value, None, keep=None))
        for most in (-1, 1001, *NO_INTEGERS):
            refused(self, BadNumber, most, lambda: tried(machine, most, keep=None))
        for keep in (*STRANGE, 0, 1, "True", "", [], (True,)):
            refused(self, BadKind, keep, lambda: tried(machine, 1, keep=keep))
        self.assertEqual(machine, example())
        self.assertEqual([len(tried(machine, 0)), len(tried(machine, 1000))], [0, 7])

    def test_a_trial_that_is_kept(self):
        machine = example()
        machine.go(1)
        with machine.trial() as work:
            self.assertIsNot(work, machine)
            self.assertIs(work.keep, True)
            self.assertEqual(work, machine)
            work.go(3)
            self.assertEqual(machine.row_of(1), 1)
        self.assertEqual(machine, work)
        self.assertEqual([machine.events(), machine.row_of(1), machine.state()], [[(2, (1,))], 5, "goes"])
        self.assertEqual(machine.go(90)[-1], ("over",))

    def test_a_trial_that_is_not_kept(self):
        machine = example()
        machine.go(1)
        before = machine.copy()
        with machine.trial() as work:
            work.go(9)
            work.keep = None
        self.assertEqual([machine == before, machine.events(), work.state()], [True, [], "over"])

    def test_a_trial_that_an_exception_leaves(self):
        machine = example()
        before = machine.copy()
        with self.assertRaises(NoLane):
            with machine.trial() as work:
                work.go(9)
                work.row_of(3)
        self.assertEqual([machine == before, machine.pile()], [True, before.pile()])

    def test_an_exception_that_stays_in_the_block(self):
        machine = example()
        with machine.trial() as work:
            work.go(2)
            self.assertRaises(NoLane, lambda: work.row_of(3))
        self.assertEqual(machine, work)

    def test_behind_the_block_both_go_on_by_themselves(self):
        machine = Machine(Program([("group", "a", None), ("go", 0)]), [Data()])
        with machine.trial() as work:
            work.go(4)
        work.go(3)
        self.assertEqual([len(machine.events()), len(work.events())], [2, 4])
        machine.go(7)
        self.assertEqual([len(machine.events()), len(work.events())], [6, 4])

    def test_a_machine_that_does_steps_during_its_trial(self):
        for rule in RULES:
            machine, expected = example(rule), example(rule)
            with machine.trial() as work:
                machine.go(2)
                work.go(4)
            expected.go(4)
            self.assertEqual([machine == expected, machine.pile()], [True, expected.pile()])
            machine.step()
            self.assertEqual([work == expected, work.pile()], [True, expected.pile()])
            work.go(9)
            expected.step()
            self.assertEqual([machine == expected, machine.pile()], [True, expected.pile()])

    def test_a_trial_within_a_trial(self):
        machine = example()
        with machine.trial() as work:
            work.go(2)
            with work.trial() as inner:
                self.assertIs(inner.keep, True)
                inner.go(2)
                inner.keep = None
            work.go(1)
            with work.trial() as inner:
                inner.go(1)
        expected = example()
        expected.go(4)
        self.assertEqual(machine, expected)

    def test_machines_have_keep_from_the_beginning(self):
        self.assertIs(example().keep, True)
        machine = example()
        machine.keep = None
        self.assertIs(machine.copy().keep, True)


class TestPile(unittest.TestCase):
    def run_pile(self, rows, datas, rule="told", **more):
        """What a machine does, with its pile ahead of each step."""
        machine = Machine(Program(rows, **more), datas, rule=rule)
        seen = []
        while machine.state() == "goes" and len(seen) < 50:
            seen.append((machine.pile(), machine.step()[1:]))
        return seen, machine

    def test_next_row_is_the_top(self):
        rows = [("take", "x"), ("if", "x", 1, 3, 4), ("go", 4), ("group", "a", None), ("end",)]
        seen, machine = self.run_pile(rows, [Data(1), Data(0)])
        self.assertEqual([pile for pile, _ in seen], [
            [(0, 5, (0, 1))], [(1, 5, (0, 1))], [(4, 5, (0, 1)), (3, 4, (0,)), (2, 4, (1,))],
            [(4, 5, (0, 1)), (3, 4, (0,))], [(4, 5, (0, 1))],
        ])
        self.assertEqual(machine.pile(), [(5, 5, ())])

    def test_rules_told_and_first_rejoin_elsewhere(self):
        rows = [("take", "x"), ("if", "x", 1, 3, 6), ("go", 4), ("go", 4), ("group", "a", None), ("end",)]
        datas = [Data(1), Data(0)]
        told = [step for _, step in self.run_pile(rows, datas, "told")[0]]
        first = [step for _, step in self.run_pile(rows, datas, "first")[0]]
        self.assertEqual(told[2:], [(2, (1,)), (4, (1,)), (5, (1,)), (3, (0,)), (4, (0,)), (5, (0,))])
        self.assertEqual(first[2:], [(2, (1,)), (3, (0,)), (4, (0, 1)), (5, (0, 1))])

    def test_a_branch_at_which_all_go_one_way(self):
        rows = [("take", "x"), ("if", "x", 1, 3, 4), ("go", 4), ("group", "a", None), ("end",)]
        for value, row in ((1, 3), (0, 2)):
            seen, _ = self.run_pile(rows, [Data(value)] * 3)
            self.assertEqual(seen[2], ([(row, 5, (0, 1, 2))], (row, (0, 1, 2))))

    def test_a_branch_whose_ways_are_one_parts_nobody(self):
        seen, _ = self.run_pile([("take", "x"), ("if", "x", 1, 2, 3), ("take", "x")], [Data(1), Data(0)])
        self.assertEqual(seen[2], ([(2, 3, (0, 1))], (2, (0, 1))))

    def test_an_entry_that_has_the_join_already(self):
        # Both branches rejoin at row 7, so the second pair of entries takes the place of the top one.
        rows = [("take", "x"), ("if", "x", 1, 6, 7), ("take", "x"), ("if", "x", 1, 5, 7), ("go", 7), ("go", 7),
                ("go", 7), ("end",)]
        seen, _ = self.run_pile(rows, [Data(1), Data(0, 1), Data(0, 0)])
        self.assertEqual(seen[4][0], [(7, 8, (0, 1, 2)), (6, 7, (0,)), (5, 7, (1,)), (4, 7, (2,))])
        self.assertEqual(seen[-1], ([(7, 8, (0, 1, 2))], (7, (0, 1, 2))))

    def test_an_end_as_join_takes_the_place_of_the_first_entry(self):
        rows = [("take", "x"), ("if", "x", 1, 3, 4), ("end",), ("end",)]
        seen, machine = self.run_pile(rows, [Data(1), Data(0)])
        self.assertEqual(seen[2][0], [(3, 4, (0,)), (2, 4, (1,))])
        self.assertEqual(seen[3][0], [(3, 4, (0,))])
        self.assertEqual(machine.pile(), [(4, 4, ())])

    def test_an_entry_within_waits_at_the_join(self):
        rows = [("take", "x"), ("if", "x", 1, 7, 8), ("take", "x"), ("if", "x", 1, 5, 6), ("go", 6), ("go", 6),
                ("go", 8), ("go", 8), ("end",)]
        seen, _ = self.run_pile(rows, [Data(1), Data(0, 1), Data(0, 0)])
        self.assertEqual(seen[4][0], [(8, 9, (0, 1, 2)), (7, 8, (0,)), (6, 8, (1, 2)), (5, 6, (1,)), (4, 6, (2,))])
        self.assertEqual([step for _, step in seen[4:]],
                         [(4, (2,)), (5, (1,)), (6, (1, 2)), (7, (0,)), (8, (0, 1, 2))])

    def test_arms_that_are_at_the_join_at_once_are_taken_off(self):
        rows = [("take", "x"), ("if", "x", 1, 3, 2), ("go", 4), ("go", 2), ("end",)]
        seen, _ = self.run_pile(rows, [Data(1), Data(0)])
        self.assertEqual(seen[2][0], [(2, 5, (0, 1)), (3, 2, (0,))])
        self.assertEqual(seen[3], ([(2, 5, (0, 1))], (2, (0, 1))))
        rows = [("take", "x"), ("if", "x", 1, 3, 3), ("take", "x"), ("end",)]
        seen, _ = self.run_pile(rows, [Data(1), Data(0)])
        self.assertEqual(seen[2][0], [(3, 4, (0, 1)), (3, 3, (0,)), (2, 3, (1,))])
        self.assertEqual(seen[3], ([(3, 4, (0, 1))], (3, (0, 1))))

    def test_lanes_that_end_within_an_arm(self):
        rows = [("take", "x"), ("if", "x", 1, 3, 4), ("end",), ("go", 4), ("group", "a", None)]
        seen, machine = self.run_pile(rows, [Data(1), Data(0), Data(1)])
        self.assertEqual(seen[3][0], [(4, 5, (0, 2)), (3, 4, (0, 2))])
        self.assertEqual(seen[-1], ([(4, 5, (0, 2))], (4, (0, 2))))
        self.assertEqual(machine.row_of(1), 5)

    def test_lanes_that_go_to_the_end_at_a_branch(self):
        rows = [("take", "x"), ("if", "x", 1, 4, 3), ("take", "x"), ("group", "a", None)]
        seen, machine = self.run_pile(rows, [Data(1), Data(0)])
        self.assertEqual(seen[2][0], [(3, 4, (1,)), (4, 3, ()), (2, 3, (1,))])
        self.assertEqual(seen[-1], ([(3, 4, (1,))], (3, (1,))))
        self.assertEqual(machine.state(), "over")
        rows = [("take", "x"), ("if", "x", 1, 0, 0)]
        machine = Machine(Program(rows), [Data(1, 0), Data(0)])
        machine.go(2)
        self.assertEqual(machine.pile(), [(0, 2, (0,))])

    def test_all_lanes_of_all_entries_end(self):
        rows = [("take", "x"), ("if", "x", 1, 3, 4), ("end",), ("end",), ("group", "a", None)]
        _, machine = self.run_pile(rows, [Data(1), Data(0)])
        self.assertEqual([machine.pile(), machine.step(), machine.events()], [[(4, 5, ())], ("over",), []])

    def test_a_meeting_without_some_lane_that_is_alive(self):
        rows = [("take", "x"), ("if", "x", 1, 3, 4), ("meet", "a"), ("take", "x"), ("end",)]
        machine = Machine(Program(rows), [Data(1), Data(0)])
        self.assertEqual(machine.go(9)[-1], ("stands",))
        self.assertEqual(machine.pile(), [(4, 5, (0, 1)), (3, 4, (0,)), (2, 4, (1,))])

    def test_a_meeting_without_lanes_that_have_ended(self):
        rows = [("take", "x"), ("if", "x", 1, 5, 4), ("meet", "a"), ("end",), ("end",)]
        machine = Machine(Program(rows), [Data(1), Data(0)])
        self.assertEqual([step[1:] for step in machine.go(9)[:-1]], [(0, (0, 1)), (1, (0, 1)), (2, (1,)), (3, (1,))])
        self.assertEqual(machine.events(), [(2, (1,))])

    def test_a_meeting_where_all_have_come(self):
        machine = example()
        machine.go(9)
        self.assertEqual(machine.events()[-1], (5, (0, 1, 2)))


class TestByRows(unittest.TestCase):
    def run_rows(self, rows, datas, rule, **more):
        machine = Machine(Program(rows, **more), datas, rule=rule)
        return [step[1:] if step[0] == "done" else step[0] for step in machine.go(60)], machine

    def test_least_and_greatest(self):
        rows = [("take", "x"), ("if", "x", 1, 3, 6), ("go", 5), ("group", "a", None), ("go", 5), ("end",)]
        told, _ = self.run_rows(rows, [Data(1), Data(0)], "least")
        self.assertEqual(told[2:], [(2, (1,)), (3, (0,)), (4, (0,)), (5, (0, 1)), "over"])
        told, _ = self.run_rows(rows, [Data(1), Data(0)], "greatest")
        self.assertEqual(told[2:], [(3, (0,)), (4, (0,)), (5, (0,)), (2, (1,)), (5, (1,)), "over"])

    def test_piles_are_told_by_rows(self):
        for rule in ("least", "greatest"):
            machine = example(rule)
            self.assertEqual(machine.pile(), [(0, (0, 1, 2))])
            machine.go(2)
            self.assertEqual(machine.pile(), [(2, (1,)), (4, (0, 2))])
            machine.go(9)
            self.assertEqual(machine.pile(), [])

    def test_lanes_wait_at_meetings(self):
        for rule, steps in (("least", [(2, (1,)), (3, (1,))]), ("greatest", [(2, (1,)), (3, (1,))])):
            rows = [("take", "x"), ("if", "x", 1, 4, 5), ("take", "x"), ("go", 4), ("meet", "a"), ("end",)]
            told, machine = self.run_rows(rows, [Data(1), Data(0), Data(1)], rule)
            self.assertEqual(told[2:], [*steps, (4, (0, 1, 2)), (5, (0, 1, 2)), "over"])

    def test_lanes_at_one_meeting_while_others_go_round(self):
        rows = [("take", "x"), ("if", "x", 1, 3, 3), ("go", 0), ("meet", "a")]
        for rule in ("least", "greatest"):
            told, _ = self.run_rows(rows, [Data(1), Data(0, 0, 1)], rule)
            self.assertEqual(told[-2:], [(3, (0, 1)), "over"])

    def test_lanes_that_have_ended_are_not_waited_for(self):
        rows = [("take", "x"), ("if", "x", 1, 3, 4), ("go", 4), ("meet", "a")]
        for rule in ("least", "greatest"):
            told, machine = self.run_rows(rows, [Data(1), Data(0)], rule)
            self.assertEqual([told[-2:], machine.events()], [[(3, (0,)), "over"], [(3, (0,))]])

    def test_meetings_that_are_unlike(self):
        for rule in ("least", "greatest"):
            told, machine = self.run_rows(list(STUCK.rows), [Data(1), Data(0), Data(1)], rule)
            self.assertEqual([told[-1], machine.pile()], ["stands", [(2, (1,)), (3, (0, 2))]])

    def test_a_lane_that_waits_no_more_when_the_others_have_ended(self):
        rows = [("take", "x"), ("if", "x", 1, 4, 6), ("meet", "a"), ("go", 6), ("go", 5), ("end",)]
        for rule in ("least", "greatest"):
            told, _ = self.run_rows(rows, [Data(1), Data(0)], rule)
            self.assertEqual(told[2:], [(4, (0,)), (5, (0,)), (2, (1,)), (3, (1,)), "over"])

    def test_those_that_come_to_one_row_go_on_together(self):
        rows = [("take", "x"), ("if", "x", 1, 3, 0), ("go", 4), ("go", 4), ("group", "a", None)]
        told, _ = self.run_rows(rows, [Data(1), Data(0), Data(1)], "least")
        self.assertEqual(told[2:], [(2, (1,)), (3, (0, 2)), (4, (0, 1, 2)), "over"])
        told, _ = self.run_rows(rows, [Data(1), Data(0), Data(1)], "greatest")
        self.assertEqual(told[2:], [(3, (0, 2)), (4, (0, 2)), (2, (1,)), (4, (1,)), "over"])


class TestManySteps(unittest.TestCase):
    PROGRAM = Program([("take", "x"), ("if", "x", 1, 4, 5), ("group", "low", None), ("go", 5), ("group", "high", None),
                       ("if", "x", 0, 0, 0), ("go", 0)])
    DATAS = [Data(*[0, 1] * 25) for _ in range(6)]

    def machine(self, rule):
        return Machine(self.PROGRAM, self.DATAS, rule=rule)

    def told(self, machine):
        """All that can be asked of a machine."""
        lanes = range(len(machine))
        return [
            [machine.row_of(lane) for lane in lanes], [machine.registers_of(lane) for lane in lanes], machine.alive(),
            machine.state(), machine.pile(), machine.events(), len(machine), machine.datas, machine.rule,
        ]

    def test_steps_beside_machines_that_go_at_once(self):
        for rule in RULES:
            others = [self.machine(rule) for _ in range(101)]
            steps = [other.go(many) for many, other in enumerate(others)]
            expected = [self.told(other) for other in others]
            for _ in range(100):
                machine = self.machine(rule)
                self.assertEqual(self.told(machine), expected[0])
                for many in range(1, 101):
                    self.assertEqual(machine.step(), steps[many][-1])
                    self.assertEqual(self.told(machine), expected[many])
                    self.assertTrue(machine == others[many] and machine != others[many - 1])

    def test_any_machines_beside_the_words_of_the_document(self):
        for chance in chances(60):
            program = some_program(chance, 14, chance.choice([(), ("any", "all", "same")]))
            for rule in RULES:
                datas = [some_data(chance, program.size, 12) for _ in range(chance.randint(1, 7))]
                machine = Machine(program, datas, rule=rule)
                lanes = Lanes(program, datas, rule, joins_of(program, rule) if rule in ("told", "first") else {})
                events = []
                for _ in range(100):
                    done = lanes.step()
                    self.assertEqual(machine.step(), done, (program.rows, rule))
                    if done[0] == "done" and program.rows[done[1]][0] in ("group", "meet", "any", "all", "same"):
                        events.append(done[1:])
                    self.assertEqual([machine.row_of(lane) for lane in range(len(datas))], lanes.row)
                    self.assertEqual([machine.registers_of(lane) for lane in range(len(datas))],
                                     [lanes.registers(lane) for lane in range(len(datas))])
                    self.assertEqual([machine.events(), machine.alive()], [events, tuple(lanes.alive())])
                    if rule in ("told", "first") and lanes.alive():
                        self.assertEqual(machine.pile(), [(row, join, tuple(some)) for row, join, some in lanes.pile])

    def test_copies_of_copies_go_on_by_themselves(self):
        for rule in RULES:
            machines, done = [self.machine(rule)], [0]
            for many in range(12):
                machines.append(machines[-1].copy())
                done.append(done[-1])
                machines[many].go(many)
                done[many] += many
                machines[-1].step()
                done[-1] += 1
                with machines[-1].trial() as work:
                    work.go(3)
                    work.keep = True if many > 5 else None
                done[-1] += 3 if many > 5 else 0
                work.go(50)
            for machine, many in zip(machines, done):
                other = self.machine(rule)
                other.go(many)
                self.assertEqual(self.told(machine), self.told(other))
                self.assertEqual(machine, other)

    def steps_of_all(self):
        """How long the steps of 400 machines take."""
        spent = 0
        for rule in RULES:
            machines = [self.machine(rule) for _ in range(100)]
            start = time.perf_counter()
            for machine in machines:
                for _ in range(100):
                    machine.step()
            spent += time.perf_counter() - start
        return spent

    def plain_work(self):
        """How long as many turns of plain work with six lanes take, which tells how fast all goes here."""
        places, lanes = [0] * 6, tuple(range(6))
        start = time.perf_counter()
        for number in range(1, 40001):
            for lane in tuple([lane for lane in lanes if places[lane] != number]):
                places[lane] = number
        return time.perf_counter() - start

    def test_time_of_many_steps(self):
        # A step takes about as long as four such turns; one that took ten times as long would be too long by far.
        times = [(self.plain_work(), self.steps_of_all()) for _ in range(5)]
        self.assertLess(min(steps for _, steps in times), 14 * min(plain for plain, _ in times))


if __name__ == "__main__":
    unittest.main()
