"""[2], [3], [12] and [13]: pairs."""

import unittest
from unittest import mock

from partedlanes import graphs
from partedlanes.errors import BadNumber, BadProgram, BadRule, BadState, NotNested, NotPlain, TooLarge, TooMany
from partedlanes.lanes import Data
from partedlanes.machines import Machine
from partedlanes.pairs import Pairs
from partedlanes.programs import Program
from partedlanes.promises import Promise, broken_rows, keeps
from partedlanes.roads import joins_of, unnested
from tests.helpers import NO_INTEGERS, STRANGE, Everything, error_of, refused
from tests.literal import Lanes, chances, some_data, some_program

RULES = ("told", "first", "least", "greatest")
EXAMPLE = Program([("take", "x"), ("if", "x", 1, 4, 5), ("group", "low", None), ("go", 5), ("group", "high", None),
                   ("meet", "all")])
MEETINGS = Program([("take", "x"), ("if", "x", 1, 4, 5), ("meet", "one"), ("go", 5), ("meet", "two"), ("end",)])
CROSSED = Program([("if", "x", 1, 3, 3), ("if", "x", 0, 3, 4), ("take", "x"), ("end",)])


def slow(many):
    """A program whose lanes are at row many + 12 with unlike values of y only when each took six times so many.

    Lanes go round together; behind the takes y becomes 1 from 0, 2 from 1, and 0 or 1 from 2, which two lanes
    come to with 0 and 2 at once only in the fifth round. Those that took 2 last leave the loop.
    """
    rows = [
        *[("take", "x")] * many, ("if", "x", 2, many + 9, many + 13), ("if", "y", 1, many + 7, 0),
        ("if", "y", 0, many + 5, 0), ("copy", "y", "x"), ("go", 0), ("set", "y", 1), ("go", 0), ("set", "y", 2),
        ("go", 0), ("if", "y", 0, many + 11, many + 12), ("if", "y", 1, many + 13, many + 12), ("set", "x", 0),
        ("group", "see", many + 11),
    ]
    return Program(rows, registers=("x", "y"), values=3)


def plain_programs(many, most):
    """Some plain programs and rules by which there are pairs."""
    for chance in chances(many):
        program = some_program(chance, most)
        for rule in RULES:
            if rule not in ("told", "first") or not unnested(program, rule):
                yield chance, program, rule


def lanes_of(program, datas, rule):
    """The lanes of the document's words."""
    return Lanes(program, datas, rule, joins_of(program, rule) if rule in ("told", "first") else {})


class TestExceptions(unittest.TestCase):
    def functions(self):
        """All that raise as point 12 tells."""
        return (Pairs, lambda program, rule: Promise(program, rule, 0), keeps, broken_rows)

    def test_wrong_programs_and_rules(self):
        for function in self.functions():
            for program in (*STRANGE, [("end",)], "program", 1, True, Data(1)):
                refused(self, BadProgram, program, lambda: function(program, None))
            for rule in (*STRANGE, "", "Told", "most", ("told",), ["least"], b"told", 0, True):
                refused(self, BadRule, rule, lambda: function(EXAMPLE, rule))

    def test_rows_that_steer(self):
        for row in (("any", "x", 1, "x"), ("all", "x", 1, "x"), ("same", "x", "x")):
            program = Program([("take", "x"), row, ("end",), row])
            for function in self.functions():
                for rule in RULES:
                    self.assertEqual(error_of(self, NotPlain, lambda: function(program, rule)), 1)
                error_of(self, BadRule, lambda: function(program, "rule"))

    def test_joins_that_do_not_nest(self):
        for function in self.functions():
            self.assertEqual(error_of(self, NotNested, lambda: function(CROSSED, "told")), (0, 1))
        for rule in ("first", "least", "greatest"):
            self.assertIs(keeps(CROSSED, rule), True)
        two = Program([("if", "x", 1, 1, 3), ("if", "x", 1, 2, 4), ("if", "x", 1, 3, 5), ("take", "x"), ("end",)])
        self.assertEqual(error_of(self, NotNested, lambda: Pairs(two, "told")), (0, 1))

    def test_steering_is_told_ahead_of_joins(self):
        program = CROSSED.with_row(2, ("same", "x", "x"))
        self.assertEqual(error_of(self, NotPlain, lambda: Pairs(program, "told")), 2)

    def test_too_many(self):
        self.assertEqual(graphs.MOST_STATES, 60000)
        many = len(Pairs(EXAMPLE, "told"))
        with mock.patch.object(graphs, "MOST_STATES", many):
            self.assertEqual(len(Pairs(EXAMPLE, "told")), many)
        with mock.patch.object(graphs, "MOST_STATES", many - 1):
            for function in (Pairs, keeps, broken_rows, lambda program, rule: Promise(program, rule, None)):
                self.assertEqual(error_of(self, TooMany, lambda: function(EXAMPLE, "told")), many - 1)

    def test_too_many_for_some_rules(self):
        promise = Promise(EXAMPLE, "first", 2)
        with mock.patch.object(graphs, "MOST_STATES", 3):
            self.assertEqual(promise.kept_by(), [])

    def test_names_of_arguments(self):
        pairs = Pairs(program=EXAMPLE, rule="least")
        state = pairs.start
        told = [pairs.does(state=state), len(pairs.steps(state=state)), pairs.shown(state=state)[2],
                pairs.are_together(row=0), pairs.is_alone(row=0), pairs.others(row=0)]
        self.assertEqual(told, [0, 4, 0, True, False, [0]])


class TestStates(unittest.TestCase):
    def test_beginning(self):
        for rule in RULES:
            pairs = Pairs(EXAMPLE, rule)
            self.assertEqual(pairs.start, (0, (0,), 0, (0,), "both", 6))
            self.assertIn(pairs.start, pairs)
        wide = Program([("meet", "a")], registers=("x", "y"), values=3)
        self.assertEqual(Pairs(wide, "told").start, (0, (0, 0), 0, (0, 0), "both", 1))

    def test_states_of_a_small_program(self):
        program = Program([("take", "x"), ("if", "x", 1, 3, 3), ("go", 3), ("end",)])
        nought, one = (0,), (1,)
        self.assertEqual(Pairs(program, "told").states(), [
            (0, nought, 0, nought, "both", 4),
            (1, nought, 1, nought, "both", 4), (1, nought, 1, one, "both", 4),
            (1, one, 1, nought, "both", 4), (1, one, 1, one, "both", 4),
            (2, nought, 2, nought, "both", 4), (2, nought, 3, one, "first", 3),
            (3, nought, 3, nought, "both", 4), (3, nought, 3, one, "both", 4),
            (3, one, 2, nought, "second", 3), (3, one, 3, nought, "both", 4), (3, one, 3, one, "both", 4),
            (4, nought, 4, nought, "over", 4), (4, nought, 4, one, "over", 4),
            (4, one, 4, nought, "over", 4), (4, one, 4, one, "over", 4),
        ])

    def test_states_where_the_machine_stands(self):
        self.assertIn((2, (0,), 4, (1,), "first stands", 5), Pairs(MEETINGS, "told"))
        self.assertIn((4, (1,), 2, (0,), "second stands", 5), Pairs(MEETINGS, "told"))
        for rule in ("least", "greatest"):
            pairs = Pairs(MEETINGS, rule)
            self.assertIn((2, (0,), 4, (1,), "stands", 6), pairs)
            self.assertIn((4, (1,), 2, (0,), "stands", 6), pairs)
        for rule in RULES:
            pairs = Pairs(MEETINGS, rule)
            for state in pairs.states():
                if "stands" in state[4] or state[4] == "over":
                    self.assertEqual([pairs.steps(state), pairs.does(state)], [[], None])

    def test_lanes_that_have_ended(self):
        rows = [("take", "x"), ("if", "x", 1, 4, 3), ("meet", "a"), ("take", "x")]
        for rule in RULES:
            pairs = Pairs(Program(rows), rule)
            self.assertIn((4, (1,), 2, (0,), "second", 4), pairs)
            self.assertIn((2, (0,), 4, (1,), "first", 4), pairs)
            steps = pairs.steps((4, (1,), 3, (0,), "second", 4))
            self.assertEqual(steps, [(4, (1,), 4, (0,), "over", 4), (4, (1,), 4, (1,), "over", 4)])

    def test_contains_any_value(self):
        pairs = Pairs(EXAMPLE, "told")
        state = (2, (0,), 4, (1,), "first", 5)
        self.assertIs(state in pairs, True)
        wrong = [
            (2, (0,), 4, (1,), "second", 5), (2, (0,), 4, (1,), "first", 6), (2, [0], 4, (1,), "first", 5),
            (2, (False,), 4, (True,), "first", 5), (2, (0,), 4, (True,), "first", 5), (2.0, (0,), 4, (1,), "first", 5),
            (2, (0.0,), 4, (1,), "first", 5), list(state), state[:5], (*state, 5), (2, 0, 4, 1, "first", 5),
            (2, (0,), 4, (1,), b"first", 5), (2, (0,), 4, (1,), "first", 5.0), (2, (0, 0), 4, (1,), "first", 5),
            (2, (0,), 4, (1,), Everything(), 5), (2, (Everything(),), 4, (1,), "first", 5), (2, ([],), 4, (1,), "", 5),
            (Everything(),) * 6, (True, (0,), True, (0,), "both", 6), (False, (0,), False, (0,), "both", 6),
            (), "state", 1, True, {}, *STRANGE,
        ]
        for value in wrong:
            self.assertIs(value in pairs, False)
            for function in (pairs.steps, pairs.does, pairs.shown):
                refused(self, BadState, value, lambda: function(value))

    def test_lists_are_new_and_ascending(self):
        pairs = Pairs(EXAMPLE, "least")
        before = pairs.states()
        self.assertEqual([before, len(before)], [sorted(set(before)), len(pairs)])
        pairs.states().clear()
        pairs.steps(pairs.start).clear()
        pairs.others(5).clear()
        self.assertEqual([pairs.states(), len(pairs.steps(pairs.start)), pairs.others(5)], [before, 4, [5]])
        for state in before:
            self.assertEqual(pairs.steps(state), sorted(set(pairs.steps(state))))

    def test_steps_with_each_value(self):
        program = Program([("take", "y"), ("take", "x")], registers=("x", "y"), values=3)
        pairs = Pairs(program, "told")
        expected = [(1, (0, one), 1, (0, other), "both", 2) for one in range(3) for other in range(3)]
        self.assertEqual(pairs.steps(pairs.start), expected)
        self.assertEqual(len(pairs.steps(expected[5])), 9)

    def test_equality(self):
        self.assertEqual(Pairs(EXAMPLE, "told"), Pairs(EXAMPLE, "told"))
        self.assertNotEqual(Pairs(EXAMPLE, "told"), Pairs(EXAMPLE, "first"))
        self.assertNotEqual(Pairs(EXAMPLE, "told"), Pairs(EXAMPLE.with_row(3, ("go", 4)), "told"))
        for other in (None, 1, EXAMPLE, Everything(), Promise(EXAMPLE, "told", 2)):
            self.assertIs(Pairs(EXAMPLE, "told") == other, False)

    def test_the_states_are_just_those_that_lanes_come_to(self):
        # All data that are long enough to lead anywhere in these programs.
        values = [Data(a, b, c) for a in range(2) for b in range(2) for c in range(2)]
        for program in (EXAMPLE, MEETINGS, Program([("take", "x"), ("if", "x", 1, 4, 3), ("meet", "a"), ("end",)])):
            for rule in RULES:
                seen = set()
                for one in values:
                    for other in values:
                        lanes = lanes_of(program, [one, other], rule)
                        seen.add(lanes.pair_state())
                        while lanes.step()[0] == "done":
                            seen.add(lanes.pair_state())
                self.assertEqual(Pairs(program, rule).states(), sorted(seen), (program.rows, rule))


class TestRows(unittest.TestCase):
    def test_together_alone_and_others(self):
        for rule in RULES:
            pairs = Pairs(EXAMPLE, rule)
            self.assertEqual([pairs.are_together(row) for row in range(6)], [True] * 6)
            self.assertEqual([row for row in range(6) if pairs.is_alone(row)], [2, 3, 4])
        pairs = Pairs(EXAMPLE, "told")
        self.assertEqual([pairs.others(row) for row in range(6)], [[0], [1], [2, 4], [3, 4], [4, 5], [5]])

    def test_a_lane_that_has_ended_is_no_other_one_that_is_alive(self):
        rows = [("take", "x"), ("if", "x", 1, 4, 4), ("take", "x"), ("end",)]
        for rule in RULES:
            pairs = Pairs(Program(rows), rule)
            self.assertEqual([pairs.is_alone(2), pairs.are_together(2), pairs.others(2)], [False, True, [2, 4]])

    def test_rows_that_nobody_does(self):
        for rule in RULES:
            pairs = Pairs(Program([("go", 2), ("take", "x"), ("end",)]), rule)
            self.assertEqual([pairs.is_alone(1), pairs.are_together(1), pairs.others(1)], [False, False, []])

    def test_the_order_of_rows_tells_who_is_together(self):
        rows = [("take", "x"), ("if", "x", 1, 3, 5), ("go", 4), ("go", 4), ("group", "a", None)]
        least, greatest = Pairs(Program(rows), "least"), Pairs(Program(rows), "greatest")
        self.assertEqual([least.is_alone(4), least.others(4), least.others(2)], [False, [4], [2, 3]])
        self.assertEqual([greatest.is_alone(4), greatest.others(4), greatest.others(2)], [True, [2, 4, 5], [2, 5]])

    def test_wrong_rows(self):
        pairs = Pairs(EXAMPLE, "told")
        for row in (-1, 6, 7, *NO_INTEGERS):
            for function in (pairs.are_together, pairs.is_alone, pairs.others):
                refused(self, BadNumber, row, lambda: function(row))


class TestShown(unittest.TestCase):
    def test_small(self):
        pairs = Pairs(EXAMPLE, "told")
        self.assertEqual(pairs.shown(pairs.start), (Data(), Data(), 0))
        self.assertEqual(pairs.shown((2, (0,), 4, (1,), "first", 5)), (Data(), Data(1), 2))
        self.assertEqual(pairs.shown((4, (1,), 3, (0,), "second", 5)), (Data(1), Data(), 3))

    def test_machines_come_to_what_is_shown_with_the_fewest_steps(self):
        for chance, program, rule in plain_programs(40, 8):
            pairs = Pairs(program, rule)
            least = {pairs.start: 0}
            layer = [pairs.start]
            while layer:
                behind = {later: least[state] + 1 for state in layer for later in pairs.steps(state)}
                layer = [state for state in behind if state not in least]
                least.update((state, behind[state]) for state in layer)
            for state in chance.sample(pairs.states(), min(len(pairs), 20)):
                one, other, steps = pairs.shown(state)
                self.assertEqual(steps, least[state])
                lanes = lanes_of(program, [one, other], rule)
                for _ in range(steps):
                    lanes.step()
                self.assertEqual(lanes.pair_state(), state, (program.rows, rule))

    def test_just_sixty_values(self):
        pairs = Pairs(slow(10), "told")
        one, other, steps = pairs.shown((22, (0, 0), 22, (0, 2), "both", 23))
        self.assertEqual([len(one), len(other)], [60, 60])
        lanes = lanes_of(slow(10), [one, other], "told")
        for _ in range(steps):
            lanes.step()
        self.assertEqual(lanes.pair_state(), (22, (0, 0), 22, (0, 2), "both", 23))

    def test_more_than_sixty_values(self):
        pairs = Pairs(slow(11), "told")
        state = (23, (0, 0), 23, (0, 2), "both", 24)
        self.assertIn(state, pairs)
        self.assertEqual(error_of(self, TooLarge, lambda: pairs.shown(state)), 60)

    def test_more_than_sixty_values_of_one_lane_alone(self):
        pairs = Pairs(slow(11), "told")
        for classes in (((2, 0), (0, 2)), ((0, 0), (2, 2)), ((2, 2), (0, 0)), ((0, 2), (2, 0))):
            state = (11, classes[0], 11, classes[1], "both", 24)
            self.assertEqual(error_of(self, TooLarge, lambda: pairs.shown(state)), 60)
        pairs = Pairs(slow(10), "told")
        one, other, _ = pairs.shown((10, (2, 0), 10, (0, 2), "both", 23))
        self.assertTrue(len(one) == 60 and len(other) <= 50)
        one, other, _ = pairs.shown((10, (0, 0), 10, (2, 2), "both", 23))
        self.assertTrue(len(one) <= 50 and len(other) == 60)

    def test_zeros_at_the_end_are_no_values(self):
        # Behind more than sixty takes, of which only the last ones have to be zeros.
        state = (11, (0, 0), 11, (0, 2), "both", 24)
        one, other, steps = Pairs(slow(11), "told").shown(state)
        self.assertGreater(steps, 66)
        self.assertTrue(len(one) <= 60 and len(other) <= 60)
        lanes = lanes_of(slow(11), [one, other], "told")
        for _ in range(steps):
            lanes.step()
        self.assertEqual(lanes.pair_state(), state)


class TestMachines(unittest.TestCase):
    def test_two_lanes(self):
        for chance, program, rule in plain_programs(60, 9):
            pairs = Pairs(program, rule)
            for _ in range(3):
                datas = [some_data(chance, program.size, 8) for _ in range(2)]
                lanes, machine = lanes_of(program, datas, rule), Machine(program, datas, rule=rule)
                state = lanes.pair_state()
                self.assertEqual(state, pairs.start)
                for _ in range(40):
                    done = lanes.step()
                    self.assertEqual(machine.step(), done)
                    self.assertEqual(pairs.does(state), done[1] if done[0] == "done" else None)
                    if done[0] != "done":
                        break
                    self.assertIn(lanes.pair_state(), pairs.steps(state), (program.rows, rule))
                    state = lanes.pair_state()

    def test_more_lanes(self):
        for chance, program, rule in plain_programs(60, 9):
            pairs = Pairs(program, rule)
            together = {(*state[:2], state[3]) for state in pairs.states() if state[4] == "both"}
            alone = {state[:4] for state in pairs.states() if state[4] == "first"}
            for _ in range(2):
                datas = [some_data(chance, program.size, 8) for _ in range(chance.randint(3, 6))]
                self.watch(Machine(program, datas, rule=rule), pairs, together, alone)

    def watch(self, machine, pairs, together, alone):
        for _ in range(40):
            places = [(machine.row_of(lane), machine.registers_of(lane)) for lane in range(len(machine))]
            alive = machine.alive()
            done = machine.step()
            if done[0] != "done":
                return
            _, row, lanes = done
            for one in lanes:
                for other in range(len(machine)):
                    if other != one and other in lanes:
                        self.assertIn((*places[one], places[other][1]), together)
                        self.assertTrue(pairs.are_together(row) and row in pairs.others(row))
                    elif other != one:
                        self.assertIn(places[one] + places[other], alone)
                        self.assertIn(places[other][0], pairs.others(row))
                        self.assertTrue(other not in alive or pairs.is_alone(row))


if __name__ == "__main__":
    unittest.main()
